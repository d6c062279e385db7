/-
  The walk of the statement RcBack: for every list of steps and every text it returns true, and writes nothing that was there.
-/
import Derived.Test.YtocoehjggkkoeaaRcBackRun
import Derived.Test.YtocoehjggkkoeaaRcLock
import Derived.Deep.RegionWith
import Derived.Deep.RegionHeld3
import Derived.Laws.StructEq
namespace Go.Proofs.Ytocoehjggkkoeaa.Rc
open Go.RowKit
/-- The encoder and its probabilities; those of the decoder as they began. -/
structure BackA (w0 : World) (a P Q : Nat) (s : Es) (w : World) (O : Paint) : Prop where
  run : Run w0 w O
  enc : EncAt w O 1 a s.e
  ps : Arr16 w O 3 P s.pl
  qs : Arr16 w O 4 Q [1024, 1024, 1024, 1024]
theorem BackA.idle {w0 w w' : World} {a P Q : Nat} {s : Es} {O O' : Paint} (h : BackA w0 a P Q s w O) (hs : Step [] w O w' O') : BackA w0 a P Q s w' O' :=
  ⟨h.run.step hs (by simp), h.enc.step hs (by simp), Blk.step h.ps hs (by simp), Blk.step h.qs hs (by simp)⟩
theorem BackA.dev {w0 w w' : World} {a P Q : Nat} {s : Es} {e : Enc} {O O' : Paint} (h : BackA w0 a P Q s w O) (hs : Step [1] w O w' O') (he : EncAt w' O' 1 a e) : BackA w0 a P Q ⟨e, s.pl⟩ w' O' :=
  ⟨h.run.step hs (by simp), he, Blk.step h.ps hs (by simp), Blk.step h.qs hs (by simp)⟩
theorem BackA.setP {w0 w : World} {a P Q : Nat} {s : Es} {O : Paint} (h : BackA w0 a P Q s w O) (j x : Nat) : BackA w0 a P Q ⟨s.e, s.pl.set j x⟩ (w.setCell ⟨P, j, none⟩ (.int .u16 (x : Int))) O := by
  have hs := Step.store w O ⟨P, j, none⟩ (.int .u16 (x : Int))
  simp only [h.ps.2] at hs
  exact ⟨h.run.step hs (by simp), h.enc.step hs (by simp), h.ps.set j x, Blk.step h.qs hs (by simp)⟩
/-- The decoder and its probabilities; those of the encoder as they ended. -/
structure BackB (w0 : World) (D P Q : Nat) (d : Dec) (tot : Nat) (pl ql : List Nat) (w : World) (O : Paint) : Prop where
  run : Run w0 w O
  dec : DecAt w O 5 D d tot
  ps : Arr16 w O 3 P pl
  qs : Arr16 w O 4 Q ql
theorem BackB.idle {w0 w w' : World} {D P Q tot : Nat} {d : Dec} {pl ql : List Nat} {O O' : Paint} (h : BackB w0 D P Q d tot pl ql w O) (hs : Step [] w O w' O') : BackB w0 D P Q d tot pl ql w' O' :=
  ⟨h.run.step hs (by simp), h.dec.step hs (by simp), Blk.step h.ps hs (by simp), Blk.step h.qs hs (by simp)⟩
theorem BackB.dev {w0 w w' : World} {D P Q tot tot' : Nat} {d d' : Dec} {pl ql : List Nat} {O O' : Paint} (h : BackB w0 D P Q d tot pl ql w O) (hs : Step [5] w O w' O') (he : DecAt w' O' 5 D d' tot') : BackB w0 D P Q d' tot' pl ql w' O' :=
  ⟨h.run.step hs (by simp), he, Blk.step h.ps hs (by simp), Blk.step h.qs hs (by simp)⟩
theorem BackB.setQ {w0 w : World} {D P Q tot : Nat} {d : Dec} {pl ql : List Nat} {O : Paint} (h : BackB w0 D P Q d tot pl ql w O) (j x : Nat) : BackB w0 D P Q d tot pl (ql.set j x) (w.setCell ⟨Q, j, none⟩ (.int .u16 (x : Int))) O := by
  have hs := Step.store w O ⟨Q, j, none⟩ (.int .u16 (x : Int))
  simp only [h.qs.2] at hs
  exact ⟨h.run.step hs (by simp), h.dec.step hs (by simp), Blk.step h.ps hs (by simp), h.qs.set j x⟩
/-- The steps that came in, by their numbers. -/
def Listed (w : World) (a : Option Addr) (len : Nat) (f : Nat → St) : Prop := (∀ i, i < len → (f i).Ok) ∧ (len = 0 ∨ ∃ b off, a = some ⟨b, off, none⟩ ∧ b < w.heap.size ∧ ∀ i, i < len → IsStep w b (off + i * 5) (f i))
theorem listed {w : World} {a : Option Addr} {len : Nat} (h : IsSteps w a len) : ∃ f, Listed w a len f := by
  rcases h.2 with h0 | ⟨b, off, rfl, hb, hk⟩
  · exact ⟨fun _ => ⟨0, 0, 0, 0, 0⟩, fun i hi => by omega, .inl h0⟩
  · refine ⟨fun i => if hi : i < len then Classical.choose (hk i hi) else ⟨0, 0, 0, 0, 0⟩, fun i hi => ?_, .inr ⟨b, off, rfl, hb, fun i hi => ?_⟩⟩
    · simp only [hi, dif_pos]
      exact (Classical.choose_spec (hk i hi)).2.2.2.2.2
    · simp only [hi, dif_pos]
      exact Classical.choose_spec (hk i hi)
theorem eq_arr (a b c d : Int) (w : World) : (Op.equalIn 10000 32 (.agg #[.int .u16 a, .int .u16 b, .int .u16 c, .int .u16 d]) (.agg #[.int .u16 a, .int .u16 b, .int .u16 c, .int .u16 d])).run Try.prog w = .ok true w := by
  have u3 := Try.underlying31
  have a3 := Try.isAgg31
  have z3 := Try.sizeOf31
  rw [show (10000 : Nat) = 9999 + 1 from rfl, Op.equalIn]
  simp only [Sem.run_bind, run_underlying Try.underlying32, Result.andThen_ok]
  simp only [Std.Legacy.Range.forIn_eq_forIn_range', Std.Legacy.Range.size, Nat.sub_zero, Nat.add_sub_cancel, Nat.div_one, List.range'_succ, List.range'_zero, List.forIn_cons, List.forIn_nil]
  go_simp
theorem mask_u64 (v n r : Nat) (hv : v < 4294967296) (hn : n ≤ 32) (hr : r = v % 2 ^ n) :
    (IntKind.u64.wrap (r : Int) != bits .and .u64 (IntKind.u64.wrap (v : Int)) (IntKind.u64.wrap (IntKind.u64.wrap (2 ^ n) - 1))) = false := by
  have hp : (2 : Int) ^ n ≤ 4294967296 := by
    have : (2 : Nat) ^ n ≤ 2 ^ 32 := Nat.pow_le_pow_right (by omega) hn
    have h2 : ((2 ^ n : Nat) : Int) ≤ ((2 ^ 32 : Nat) : Int) := Int.ofNat_le.2 this
    simpa using h2
  have hp1 : (1 : Int) ≤ 2 ^ n := by
    have : 1 ≤ (2 : Nat) ^ n := Nat.one_le_two_pow
    have h2 : ((1 : Nat) : Int) ≤ ((2 ^ n : Nat) : Int) := Int.ofNat_le.2 this
    simpa using h2
  have hrv : r ≤ v := by rw [hr]; exact Nat.mod_le _ _
  have e1 : IntKind.u64.wrap (r : Int) = (r : Int) := IntWalk.u64_in _ (by omega)
  have e2 : IntKind.u64.wrap (v : Int) = (v : Int) := IntWalk.u64_in _ (by omega)
  have e3 : IntKind.u64.wrap ((2 : Int) ^ n) = 2 ^ n := IntWalk.u64_in _ (by omega)
  have e4 : IntKind.u64.wrap ((2 : Int) ^ n - 1) = 2 ^ n - 1 := IntWalk.u64_in _ (by omega)
  have two63 : (2 : Int) ^ 63 = 9223372036854775808 := by decide
  have h := bits_mask .u64 63 (by decide) (fun n h0 h1 => by rw [two63] at h1; exact IntWalk.u64_in _ (by omega)) n (by omega) (v : Int) (by omega) (by rw [two63]; omega)
  rw [e1, e2, e3, e4, h, hr, bne_eq_false_iff_eq]
  simp
set_option maxRecDepth 100000 in
set_option maxHeartbeats 16000000 in
theorem back_walk (a0 : Option Addr) (len cap : Nat) (more : ByteArray) (w : World) (hl : IsSteps w a0 len) (hmo : more.size ≤ maxLen) :
    Calls Try.prog 4 #[.slice a0 len cap, .string more] w fun x w' => x = .returned (.bool true) ∧ Below w.heap.size w w' := by
  have HRUN := Lib.hid (Run.start w)
  obtain ⟨f, hls⟩ := listed hl
  have HLS := Lib.hid hls
  have hlen := hl.1
  unfold maxLen at hlen hmo
  clear hl hls
  go_enter Try.func4, Try.ntmps4
  go_wp2_with fail
  refine (speaks3 w).mono ?_
  rintro x w1 ⟨rfl, hb1⟩
  have hs1 := Step.of_below_same hb1 (fun _ => 0)
  have HR1 := Lib.hid (HRUN.out.step hs1 (by simp))
  clear hb1 hs1 HRUN
  go_wp2_with fail
  refine (new_enc w1 (fun _ => 0) 1).mono ?_
  rintro x w2 ⟨a, rfl, ha, O2, hs2, he2⟩
  have HR2 := Lib.hid (HR1.out.step hs2 (by simp))
  have HE2 := Lib.hid he2
  clear hs2 he2 HR1 ha
  go_upto_block 0 with (fail)
  have hs5 := Step.alloc_paint w2 O2 3 (.cells #[.int .u16 1024, .int .u16 1024, .int .u16 1024, .int .u16 1024] 32)
  have p5 := Blk.new w2 O2 3 (.cells #[.int .u16 1024, .int .u16 1024, .int .u16 1024, .int .u16 1024] 32)
  have z5 : (w2.alloc (.cells #[.int .u16 1024, .int .u16 1024, .int .u16 1024, .int .u16 1024] 32)).heap.size = w2.heap.size + 1 := World.size_alloc _ _
  have e5 := HE2.out.step hs5 (by simp)
  have r5 := HR2.out.step hs5 (by simp)
  generalize w2.alloc (.cells #[.int .u16 1024, .int .u16 1024, .int .u16 1024, .int .u16 1024] 32) = W5 at *
  generalize Step.paint O2 w2 3 = O5 at *
  have hs6 := Step.alloc_paint W5 O5 4 (.cells #[.int .u16 1024, .int .u16 1024, .int .u16 1024, .int .u16 1024] 32)
  have q6 := Blk.new W5 O5 4 (.cells #[.int .u16 1024, .int .u16 1024, .int .u16 1024, .int .u16 1024] 32)
  have e6 := e5.step hs6 (by simp)
  have r6 := r5.step hs6 (by simp)
  have p6 := p5.step hs6 (by simp)
  generalize W5.alloc (.cells #[.int .u16 1024, .int .u16 1024, .int .u16 1024, .int .u16 1024] 32) = W6 at *
  generalize Step.paint O5 W5 4 = O6 at *
  rw [z5] at q6
  generalize w2.heap.size = P at *
  have HL0 := Lib.hid (show BackA w a P (P + 1) (encN f 0) W6 O6 from ⟨r6, e6, p6, q6⟩)
  clear hs5 p5 z5 e5 r5 hs6 q6 e6 r6 p6 HE2 HR2
  generalize P + 1 = Q at *
  obtain ⟨N, hN⟩ : ∃ N : Nat, N = min len 120 := ⟨_, rfl⟩
  have hN1 : N ≤ len := by omega
  have hN2 : N ≤ 120 := by omega
  have HN := Lib.hid hN
  clear hN
  go_cut [8] (fun _ wx => ∃ O, BackA w a P Q (encN f N) wx O)
  case first =>
    as_aux_lemma =>
    -- BEGIN first
    go_wp2_with fail
    go_loopw [8] (fun i wr => ∃ (k : Nat) (O : Paint), k ≤ N ∧ i = .int .i64 k ∧ BackA w a P Q (encN f k) wr O) (fun i _ => len - (intOf i).toNat)
    case atStart => exact ⟨0, O6, by omega, rfl, HL0.out⟩
    case round =>
      clear HL0
      obtain ⟨k, O, hk, rfl, hA⟩ := hrel
      have htn := encN_turns f k
      by_cases hlt : k < N
      · have hok := encN_ok f k (fun i hi => HLS.out.1 i (by omega))
        have hx := HLS.out.1 k (by omega)
        have hst : encN f (k + 1) = (encN f k).step (f k) := rfl
        rcases HLS.out.2 with h0 | ⟨b, off, rfl, hbl, hact⟩
        · omega
        · obtain ⟨hc0, hc1, hc2, hc3, hc4, _⟩ := hact k (by omega)
          rw [← hA.run.below.cell (p := ⟨b, _, none⟩) hbl] at hc0 hc1 hc2 hc3 hc4
          have HX := Lib.hid hx
          have HOK := Lib.hid hok
          have HA := Lib.hid hA
          have HST := Lib.hid hst
          have l1 : k < len := by omega
          have l2 : k < 120 := by omega
          clear hact hA hok hst
          generalize f k = x at *
          generalize encN f k = s at *
          obtain ⟨x1, x2, x3, x4, x5⟩ := hx
          go_upto_block 2 with (fail)
          have hsx := Step.alloc_paint wr O 6 (.cells #[.int .u8 (x.what : Int), .int .u8 (x.which : Int), .int .u32 (x.v : Int), .int .u8 (x.n : Int), .int .u16 (x.total : Int)] 36)
          have hbx := Blk.new wr O 6 (.cells #[.int .u8 (x.what : Int), .int .u8 (x.which : Int), .int .u32 (x.v : Int), .int .u8 (x.n : Int), .int .u16 (x.total : Int)] 36)
          have hA1 := HA.out.idle hsx
          generalize wr.alloc (.cells #[.int .u8 (x.what : Int), .int .u8 (x.which : Int), .int .u32 (x.v : Int), .int .u8 (x.n : Int), .int .u16 (x.total : Int)] 36) = W at *
          generalize Step.paint O wr 6 = O1 at *
          generalize wr.heap.size = X at *
          have HA1 := Lib.hid hA1
          have v0 : W.cell? ⟨X, 0, none⟩ = some (.int .u8 (x.what : Int)) := hbx.cell 0
          have v1 : W.cell? ⟨X, 1, none⟩ = some (.int .u8 (x.which : Int)) := hbx.cell 1
          have v2 : W.cell? ⟨X, 2, none⟩ = some (.int .u32 (x.v : Int)) := hbx.cell 2
          have v3 : W.cell? ⟨X, 3, none⟩ = some (.int .u8 (x.n : Int)) := hbx.cell 3
          have v4 : W.cell? ⟨X, 4, none⟩ = some (.int .u16 (x.total : Int)) := hbx.cell 4
          clear hsx hA1 hc0 hc1 hc2 hc3 hc4 HA hbx
          by_cases h3 : x.what % 5 = 3
          · as_aux_lemma =>
            have hb3 : ((x.what : Int) % 5 == 3) = true := by rw [beq_iff_eq]; omega
            obtain ⟨n, hn⟩ : ∃ n : Nat, n = x.n % 33 := ⟨_, rfl⟩
            have hn32 : n ≤ 32 := by omega
            have HNN := Lib.hid (show (x.n : Int) % 33 = (n : Int) by omega)
            have HSE := Lib.hid (show s.step x = ⟨directN x.v n s.e n, s.pl⟩ by unfold Es.step; rw [if_pos h3, hn])
            clear hn h3
            go_wp2_with fail
            rw [HNN.out]
            clear hb3 v0 v1 v2 v3 v4
            refine (encdirect HA1.out.enc (by omega) x.v n x3 hn32).mono ?_
            rintro y W2 ⟨rfl, O2', hs2, he2⟩
            have HA2 := Lib.hid (HA1.out.dev hs2 he2)
            clear hs2 he2
            go_wp2_with fail
            go_roundw
            case rel => exact ⟨k + 1, O2', by omega, by go_num, by rw [HST.out, HSE.out]; exact HA2.out⟩
            case measure => simp [intOf]; omega
          · have hb3 : ((x.what : Int) % 5 == 3) = false := by rw [beq_eq_false_iff_ne]; omega
            by_cases h4 : x.what % 5 = 4
            · as_aux_lemma =>
              have hb4 : ((x.what : Int) % 5 == 4) = true := by rw [beq_iff_eq]; omega
              have HSE := Lib.hid (show s.step x = ⟨s.e.part x.A x.B x.C, s.pl⟩ by unfold Es.step; rw [if_neg h3, if_pos h4])
              obtain ⟨p1, p2, p3, p4⟩ := St.parts HX.out
              have HPA := Lib.hid (part_law x HX.out)
              generalize x.C = C at *
              generalize x.A = A at *
              generalize x.B = B at *
              clear h3 h4
              go_wp2_with fail
              refine (HPA.out _).mono ?_
              rintro y W2 ⟨rfl, hb2⟩
              have HA2 := Lib.hid (HA1.out.idle (Step.of_below_same hb2 O1))
              clear hb2 v0 v1 v2 v3 v4 hb3 hb4 HA1
              go_wp2_with fail
              refine (encpart HA2.out.enc (by omega) A B C p1 p2 p3).mono ?_
              rintro y W3 ⟨rfl, O3, hs3, he3⟩
              have HA3 := Lib.hid (HA2.out.dev hs3 he3)
              clear hs3 he3
              go_wp2_with fail
              go_roundw
              case rel => exact ⟨k + 1, O3, by omega, by go_num, by rw [HST.out, HSE.out]; exact HA3.out⟩
              case measure => simp [intOf]; omega
            · as_aux_lemma =>
              have hb4 : ((x.what : Int) % 5 == 4) = false := by rw [beq_eq_false_iff_ne]; omega
              obtain ⟨j, hj⟩ : ∃ j : Nat, j = x.which % 4 := ⟨_, rfl⟩
              have hj4 : j < 4 := by omega
              have HJ := Lib.hid (show (x.which : Int) % 4 = (j : Int) by omega)
              have hb1 : x.v % 2 ≤ 1 := by omega
              have hpj := probs_get HOK.out.2.1 (show j < s.pl.length by rw [HOK.out.2.2]; exact hj4)
              have hjl : j < s.pl.length := by rw [HOK.out.2.2]; exact hj4
              obtain ⟨pp, hpp⟩ : ∃ pp : Nat, pp = s.pl.getD j 0 := ⟨_, rfl⟩
              have HSE := Lib.hid (show s.step x = ⟨s.e.bit pp (x.v % 2), s.pl.set j (learn pp (x.v % 2))⟩ by unfold Es.step; rw [if_neg h3, if_neg h4, hpp, hj])
              rw [← hpp] at hpj
              have HPP := Lib.hid hpp
              clear hj h3 h4 hpp
              go_upto_region 10 with (fail)
              have HAd := Lib.hid (HA1.out.idle (Step.refl [] W O1).drew)
              have HCB := Lib.hid (encbit (p := pp) (b := x.v % 2) HAd.out.enc (by omega) (by rw [HPP.out]; exact HAd.out.ps.cellAt hjl) (Blk.free HAd.out.ps j) (by show O1 P ≠ 1; rw [HAd.out.ps.2]; decide) (by omega) (by omega) hb1)
              have ej1 : (x.which : Int).tmod 4 = (j : Int) := by rw [Int.tmod_eq_emod_of_nonneg (by omega)]; exact HJ.out
              have ej2 : (0 : Int) ≤ (j : Int) := by omega
              have ej3 : (j : Int) < 4 := by omega
              have ej4 : (j : Int).toNat = j := by omega
              have ej5 := HJ.out
              go_region_with ((go_at_call 17; (first | rw [low_bit x.v x3] | rw [low_bit64 x.v x3]); (with_reducible refine HCB.out.mono ?_); rintro y w5 ⟨rfl, O5', hs5, he5⟩; have HA5 := Lib.hid ((HAd.out.setP j (learn pp (x.v % 2))).dev hs5 he5); clear hs5 he5))
              all_goals
                clear ej1 ej2 ej3 ej4 ej5
                go_wp2_with fail
                go_roundw
                case rel => exact ⟨k + 1, O5', by omega, by go_num, by rw [HST.out, HSE.out]; exact HA5.out⟩
                case measure => simp [intOf]; omega
      · obtain rfl : k = N := by omega
        have HA := Lib.hid hA
        have hNN := HN.out
        clear hA hlt hk
        have key : (k < len ∧ ¬ k < 120) ∨ ¬ k < len := by omega
        clear hNN
        rcases key with ⟨h1, h2⟩ | h1
        · as_aux_lemma =>
          have d2 : decide ((k : Int) < 120) = false := by rw [decide_eq_false_iff_not]; omega
          clear h2
          go_wp2_with fail
          go_meet
          exact ⟨O, HA.out⟩
        · as_aux_lemma =>
          have d1 : decide (k < len) = false := by rw [decide_eq_false_iff_not]; omega
          go_wp2_with fail
          go_meet
          exact ⟨O, HA.out⟩
    -- END first
  case rest =>
  clear HL0
  obtain ⟨O7, hA7⟩ := hcut
  have HA7 := Lib.hid hA7
  clear hA7
  go_upto_region 16 with (fail)
  obtain ⟨m5, hm5⟩ : ∃ m5 : ByteArray, m5 = more.extract 0 (min more.size 5) := ⟨_, rfl⟩
  have hm5s : m5.size ≤ 5 := by rw [hm5]; simp; omega
  have HM5 := Lib.hid hm5
  clear hm5
  go_cut [1] (fun s wx => s = .string m5 ∧ wx = wc)
  case first =>
    as_aux_lemma =>
    by_cases h5 : more.size ≤ 5
    · have h5' : (more.size : Int) ≤ 5 := by omega
      go_wp2_with fail
      all_goals
        go_meet
        exact ⟨congrArg Value.string (by rw [HM5.out, Nat.min_eq_left h5]; simp), rfl⟩
    · have h5' : (5 : Int) < (more.size : Int) := by omega
      go_wp2_with fail
      all_goals
        go_meet
        exact ⟨congrArg Value.string (by rw [HM5.out, Nat.min_eq_right (by omega)]), rfl⟩
  case rest =>
  obtain ⟨rfl, rfl⟩ := hcut
  clear HM5 hmo
  have htN := encN_turns f N
  have hahead := fun k hk => ahead_encN f N (fun i hi => HLS.out.1 i (by omega)) k hk
  have hfs := follows_start (more := m5.data.toList) (hahead 0 (Nat.zero_le _))
  have hrd : (⟨(encN f N).e.bytes.toArray⟩ ++ m5 : ByteArray).data.toList = 0 :: be ((encN f N).e.turns + 4) (encN f N).e.low ++ m5.data.toList := by simp [Enc.bytes]
  rw [← hrd] at hfs
  have hSS : (⟨(encN f N).e.bytes.toArray⟩ : ByteArray).size ≤ 100000 := by
    show (encN f N).e.bytes.toArray.size ≤ _
    simp [Enc.bytes, be_length]; omega
  have HFS := Lib.hid hfs
  have HAH := Lib.hid hahead
  have HEN := Lib.hid (enc_end HA7.out.enc (by omega))
  clear hfs hahead hrd
  generalize hSE : (⟨(encN f N).e.bytes.toArray⟩ : ByteArray) = SS at *
  clear hSE
  go_wp2_with fail
  refine HEN.out.mono ?_
  rintro y w8 ⟨rfl, hb8⟩
  have HA8 := Lib.hid (HA7.out.idle (Step.of_below_same hb8 O7))
  clear hb8 HA7
  go_wp2_with fail
  refine (newdec (SS ++ m5) (by simp; omega) _ O7 5).mono ?_
  rintro y w9 ⟨rfl, O9, hs9, hd9⟩
  have hB9 : BackB w w8.heap.size P Q (Dec.read (SS ++ m5).data.toList) 0 (encN f N).pl (encN f 0).pl w9 O9 := ⟨HA8.out.run.step hs9 (by simp), hd9, Blk.step HA8.out.ps hs9 (by simp), Blk.step HA8.out.qs hs9 (by simp)⟩
  generalize w8.heap.size = D at *
  generalize Dec.read (SS ++ m5).data.toList = d0 at *
  generalize hF : (encN f N).e.low = F at *
  generalize hT : (encN f N).e.turns = T at *
  have HF := Lib.hid hF
  have HT := Lib.hid hT
  have HB9 := Lib.hid hB9
  clear hs9 hd9 hB9 HA8 HEN hF hT hSS htN
  go_upto_block 3 with (fail)
  go_cut [14] (fun _ wx => ∃ (d : Dec) (tot : Nat) (O : Paint), Follows d (encN f N).e F T m5.data.toList ∧ BackB w D P Q d tot (encN f N).pl (encN f N).pl wx O)
  case first =>
    as_aux_lemma =>
    -- BEGIN second
    go_wp2_with fail
    go_loopw [14] (fun i wr => ∃ (k : Nat) (d : Dec) (tot : Nat) (O : Paint), k ≤ N ∧ i = .int .i64 k ∧ Follows d (encN f k).e F T m5.data.toList ∧ BackB w D P Q d tot (encN f N).pl (encN f k).pl wr O) (fun i _ => len - (intOf i).toNat)
    case atStart => exact ⟨0, d0, 0, O9, by omega, rfl, HFS.out, HB9.out⟩
    case round =>
      clear HB9 HFS
      obtain ⟨k, d, tot, O, hk, rfl, hfo, hB⟩ := hrel
      by_cases hlt : k < N
      · have hok := encN_ok f k (fun i hi => HLS.out.1 i (by omega))
        have hx := HLS.out.1 k (by omega)
        have hst : encN f (k + 1) = (encN f k).step (f k) := rfl
        have hah := HAH.out (k + 1) (by omega)
        rw [hst] at hah
        rcases HLS.out.2 with h0 | ⟨b, off, rfl, hbl, hact⟩
        · omega
        · obtain ⟨hc0, hc1, hc2, hc3, hc4, _⟩ := hact k (by omega)
          rw [← hB.run.below.cell (p := ⟨b, _, none⟩) hbl] at hc0 hc1 hc2 hc3 hc4
          have HX := Lib.hid hx
          have HOK := Lib.hid hok
          have HB := Lib.hid hB
          have HST := Lib.hid hst
          have HAK := Lib.hid hah
          have HFO := Lib.hid hfo
          have l1 : k < len := by omega
          have l2 : k < 120 := by omega
          clear hact hB hok hst hah hfo
          generalize (encN f N).pl = pF at *
          generalize f k = x at *
          generalize encN f k = s at *
          obtain ⟨x1, x2, x3, x4, x5⟩ := hx
          go_upto_block 5 with (fail)
          have hsx := Step.alloc_paint wr O 6 (.cells #[.int .u8 (x.what : Int), .int .u8 (x.which : Int), .int .u32 (x.v : Int), .int .u8 (x.n : Int), .int .u16 (x.total : Int)] 36)
          have hbx := Blk.new wr O 6 (.cells #[.int .u8 (x.what : Int), .int .u8 (x.which : Int), .int .u32 (x.v : Int), .int .u8 (x.n : Int), .int .u16 (x.total : Int)] 36)
          have hB1 := HB.out.idle hsx
          generalize wr.alloc (.cells #[.int .u8 (x.what : Int), .int .u8 (x.which : Int), .int .u32 (x.v : Int), .int .u8 (x.n : Int), .int .u16 (x.total : Int)] 36) = W at *
          generalize Step.paint O wr 6 = O1 at *
          generalize wr.heap.size = X at *
          have HB1 := Lib.hid hB1
          have HX1 := Lib.hid hbx
          have v0 : W.cell? ⟨X, 0, none⟩ = some (.int .u8 (x.what : Int)) := hbx.cell 0
          have v1 : W.cell? ⟨X, 1, none⟩ = some (.int .u8 (x.which : Int)) := hbx.cell 1
          have v2 : W.cell? ⟨X, 2, none⟩ = some (.int .u32 (x.v : Int)) := hbx.cell 2
          have v3 : W.cell? ⟨X, 3, none⟩ = some (.int .u8 (x.n : Int)) := hbx.cell 3
          have v4 : W.cell? ⟨X, 4, none⟩ = some (.int .u16 (x.total : Int)) := hbx.cell 4
          clear hsx hB1 hc0 hc1 hc2 hc3 hc4 HB hbx
          by_cases h3 : x.what % 5 = 3
          · as_aux_lemma =>
            -- BEGIN direct
            have hb3 : ((x.what : Int) % 5 == 3) = true := by rw [beq_iff_eq]; omega
            obtain ⟨n, hn⟩ : ∃ n : Nat, n = x.n % 33 := ⟨_, rfl⟩
            have hn32 : n ≤ 32 := by omega
            have HNN := Lib.hid (show (x.n : Int) % 33 = (n : Int) by omega)
            have HSE := Lib.hid (show s.step x = ⟨directN x.v n s.e n, s.pl⟩ by unfold Es.step; rw [if_pos h3, hn])
            obtain ⟨hg, hfo2⟩ := follows_direct_all (n := n) HFO.out (show Ahead (directN x.v n s.e n) F T by have h9 := HAK.out; rw [HSE.out] at h9; exact h9)
            have HFO2 := Lib.hid hfo2
            have HCD := Lib.hid (decdirect (HB1.out.idle (Step.refl [] W O1).drew).dec n hn32)
            rw [hg] at HCD
            have hrl : x.v % 2 ^ n < 4294967296 := Nat.lt_of_le_of_lt (Nat.mod_le _ _) x3
            obtain ⟨r, hr⟩ : ∃ r : Nat, r = x.v % 2 ^ n := ⟨_, rfl⟩
            rw [← hr] at hrl HCD
            have HR := Lib.hid hr
            clear hn h3 hg hfo2 hr
            go_upto_region 27 with (fail)
            rw [HNN.out]
            go_region_held3 (fun w' => w'.cell? ⟨X, 2, none⟩ = some (.int .u32 (x.v : Int))) (first | exact u2 | exact v2 | go_keep) ((go_at_call 22; (with_reducible refine HCD.out.mono ?_); rintro y w6 ⟨rfl, hs6, hd6⟩; have HB6 := Lib.hid ((HB1.out.idle (Step.refl [] W O1).drew).dev hs6 hd6); have hx6 := (HX1.out.step ((Step.refl [] W O1).drew) (by simp)).step hs6 (by simp); have u2 : w6.cell? ⟨X, 2, none⟩ = some (.int .u32 (x.v : Int)) := hx6.cell 2; clear hs6 hd6 hx6))
            all_goals
              have hne := mask_u64 x.v n r x3 hn32 HR.out
              clear u2
              go_wp2_with fail
              go_roundw
              case rel => exact ⟨k + 1, _, _, O1, by omega, by go_num, by rw [HST.out, HSE.out]; exact HFO2.out, by rw [HST.out, HSE.out]; exact HB6.out⟩
              case measure => simp [intOf]; omega
            -- END direct
          · have hb3 : ((x.what : Int) % 5 == 3) = false := by rw [beq_eq_false_iff_ne]; omega
            by_cases h4 : x.what % 5 = 4
            · as_aux_lemma =>
              -- BEGIN part
              have hb4 : ((x.what : Int) % 5 == 4) = true := by rw [beq_iff_eq]; omega
              have HSE := Lib.hid (show s.step x = ⟨s.e.part x.A x.B x.C, s.pl⟩ by unfold Es.step; rw [if_neg h3, if_pos h4])
              obtain ⟨p1, p2, p3, p4⟩ := St.parts HX.out
              have HPA := Lib.hid (part_law x HX.out)
              obtain ⟨g1, g2, hfo2⟩ := follows_part HOK.out.1 p1 p2 p3 HFO.out (show Ahead (s.e.part x.A x.B x.C) F T by have h9 := HAK.out; rw [HSE.out] at h9; exact h9)
              have HFO2 := Lib.hid hfo2
              generalize x.C = C at *
              generalize x.A = A at *
              generalize x.B = B at *
              clear h3 h4 hfo2
              go_wp2_with fail
              refine (HPA.out _).mono ?_
              rintro y W2 ⟨rfl, hb2⟩
              have HB2 := Lib.hid (HB1.out.idle (Step.of_below_same hb2 O1))
              clear hb2 v0 v1 v2 v3 v4 hb3 hb4 HB1 HX1
              go_wp2_with fail
              refine (decwhere HB2.out.dec C p4 p3).mono ?_
              rintro y W3 ⟨rfl, hs3, hd3⟩
              have HB3 := Lib.hid (HB2.out.dev hs3 hd3)
              have t1 : decide (d.whereIn C < A) = false := by rw [decide_eq_false_iff_not]; omega
              have t2 : decide ((A : Int) + (B : Int) ≤ (d.whereIn C : Int)) = false := by rw [decide_eq_false_iff_not]; omega
              generalize d.whereIn C = wh at *
              clear hs3 hd3 HB2
              go_wp2_with fail
              refine (dectake HB3.out.dec A B p1 p2 p3).mono ?_
              rintro y W4 ⟨rfl, hs4, hd4⟩
              have HB4 := Lib.hid (HB3.out.dev hs4 hd4)
              clear hs4 hd4 t1 t2
              go_wp2_with fail
              go_roundw
              case rel => exact ⟨k + 1, _, _, O1, by omega, by go_num, by rw [HST.out, HSE.out]; exact HFO2.out, by rw [HST.out, HSE.out]; exact HB4.out⟩
              case measure => simp [intOf]; omega
              -- END part
            · as_aux_lemma =>
              -- BEGIN bit
              have hb4 : ((x.what : Int) % 5 == 4) = false := by rw [beq_eq_false_iff_ne]; omega
              obtain ⟨j, hj⟩ : ∃ j : Nat, j = x.which % 4 := ⟨_, rfl⟩
              have hj4 : j < 4 := by omega
              have HJ := Lib.hid (show (x.which : Int) % 4 = (j : Int) by omega)
              have hb1 : x.v % 2 ≤ 1 := by omega
              have hpj := probs_get HOK.out.2.1 (show j < s.pl.length by rw [HOK.out.2.2]; exact hj4)
              have hjl : j < s.pl.length := by rw [HOK.out.2.2]; exact hj4
              obtain ⟨pp, hpp⟩ : ∃ pp : Nat, pp = s.pl.getD j 0 := ⟨_, rfl⟩
              have HSE := Lib.hid (show s.step x = ⟨s.e.bit pp (x.v % 2), s.pl.set j (learn pp (x.v % 2))⟩ by unfold Es.step; rw [if_neg h3, if_neg h4, hpp, hj])
              rw [← hpp] at hpj
              have HPP := Lib.hid hpp
              obtain ⟨g1, hfo2⟩ := follows_bit HOK.out.1 (show pp ≤ 2047 by omega) hb1 HFO.out (show Ahead (s.e.bit pp (x.v % 2)) F T by have h9 := HAK.out; rw [HSE.out] at h9; exact h9)
              have HFO2 := Lib.hid hfo2
              have HG1 := Lib.hid g1
              clear hj h3 h4 hpp hfo2 g1
              go_upto_region 23 with (fail)
              have HBd := Lib.hid (HB1.out.idle (Step.refl [] W O1).drew)
              have HCB := decbit (p := pp) HBd.out.dec (by rw [HPP.out]; exact HBd.out.qs.cellAt hjl) (Blk.free HBd.out.qs j) (by show O1 Q ≠ 5; rw [HBd.out.qs.2]; decide) (by omega) (by omega)
              unfold BittenD at HCB
              rw [HG1.out] at HCB
              have HCB := Lib.hid HCB
              have ej1 : (x.which : Int).tmod 4 = (j : Int) := by rw [Int.tmod_eq_emod_of_nonneg (by omega)]; exact HJ.out
              have ej2 : (0 : Int) ≤ (j : Int) := by omega
              have ej3 : (j : Int) < 4 := by omega
              have ej4 : (j : Int).toNat = j := by omega
              have ej5 := HJ.out
              go_region_held3 (fun w' => w'.cell? ⟨X, 2, none⟩ = some (.int .u32 (x.v : Int)) ∧ w'.cell? ⟨X, 1, none⟩ = some (.int .u8 (x.which : Int))) (first | exact ⟨u2, u1⟩ | exact ⟨v2, v1⟩ | go_keep) ((go_at_call 25; (with_reducible refine HCB.out.mono ?_); rintro y w6 ⟨rfl, hs6, hd6⟩; have HB6 := Lib.hid ((HBd.out.setQ j (learn pp (x.v % 2))).dev hs6 hd6); have hx6 := ((HX1.out.step ((Step.refl [] W O1).drew) (by simp)).setCell_other (p := ⟨Q, j, none⟩) (fun e1 => by have h1 := HBd.out.qs.2; have h2 := HX1.out.2; simp only at e1; rw [e1, h2] at h1; exact absurd h1 (by decide)) (.int .u16 ((learn pp (x.v % 2) : Nat) : Int))).step hs6 (by simp); have u2 : w6.cell? ⟨X, 2, none⟩ = some (.int .u32 (x.v : Int)) := hx6.cell 2; have u1 : w6.cell? ⟨X, 1, none⟩ = some (.int .u8 (x.which : Int)) := hx6.cell 1; clear hs6 hd6 hx6))
              all_goals
                clear ej1 ej2 ej3 ej4 ej5 u1 u2
                have hne1 : (((x.v % 2 : Nat) : Int) != IntKind.i64.wrap (bits .and .u32 (x.v : Int) 1)) = false := by rw [low_bit x.v x3]; simp
                have hne2 : (((x.v % 2 : Nat) : Int) != wrap64 (bits .and .u32 (x.v : Int) 1)) = false := by rw [low_bit64 x.v x3]; simp
                go_wp2_with fail
                go_roundw
                case rel => exact ⟨k + 1, _, _, O1, by omega, by go_num, by rw [HST.out, HSE.out]; exact HFO2.out, by rw [HST.out, HSE.out]; exact HB6.out⟩
                case measure => simp [intOf]; omega
              -- END bit
      · obtain rfl : k = N := by omega
        have HB := Lib.hid hB
        have HFO := Lib.hid hfo
        have hNN := HN.out
        clear hB hlt hk hfo
        have key : (k < len ∧ ¬ k < 120) ∨ ¬ k < len := by omega
        clear hNN
        rcases key with ⟨h1, h2⟩ | h1
        · as_aux_lemma =>
          have d2 : decide ((k : Int) < 120) = false := by rw [decide_eq_false_iff_not]; omega
          clear h2
          go_wp2_with fail
          go_meet
          exact ⟨d, tot, O, HFO.out, HB.out⟩
        · as_aux_lemma =>
          have d1 : decide (k < len) = false := by rw [decide_eq_false_iff_not]; omega
          go_wp2_with fail
          go_meet
          exact ⟨d, tot, O, HFO.out, HB.out⟩
    -- END second
  case rest =>
  clear HB9 HFS
  obtain ⟨d, tot, O, hfo, hB⟩ := hcut
  rw [← HF.out, ← HT.out] at hfo
  obtain ⟨r1, r2, r3⟩ := follows_end hfo
  have hdn : d.done = m5.data.toList.isEmpty := by unfold Dec.done; rw [r1, r2]; simp
  have HB := Lib.hid hB
  have HCB := dec_bad hB.dec
  rw [r3] at HCB
  have HCB := Lib.hid HCB
  have HCD := dec_done hB.dec
  rw [hdn] at HCD
  have HCD := Lib.hid HCD
  have hlp := (encN_ok f N (fun i hi => HLS.out.1 i (by omega))).2.2
  have hps := hB.ps
  have hqs := hB.qs
  clear hfo r1 r2 r3 hdn
  generalize (encN f N).pl = pF at *
  obtain ⟨p0, p1, p2, p3, rfl⟩ : ∃ p0 p1 p2 p3, pF = [p0, p1, p2, p3] := by
    match pF, hlp with
    | [p0, p1, p2, p3], _ => exact ⟨p0, p1, p2, p3, rfl⟩
  have a1 : wc.cell? ⟨P, 0, none⟩ = some (.int .u16 (p0 : Int)) := Blk.cell hps 0
  have a2 : wc.cell? ⟨P, 1, none⟩ = some (.int .u16 (p1 : Int)) := Blk.cell hps 1
  have a3 : wc.cell? ⟨P, 2, none⟩ = some (.int .u16 (p2 : Int)) := Blk.cell hps 2
  have a4 : wc.cell? ⟨P, 3, none⟩ = some (.int .u16 (p3 : Int)) := Blk.cell hps 3
  have b1 : wc.cell? ⟨Q, 0, none⟩ = some (.int .u16 (p0 : Int)) := Blk.cell hqs 0
  have b2 : wc.cell? ⟨Q, 1, none⟩ = some (.int .u16 (p1 : Int)) := Blk.cell hqs 1
  have b3 : wc.cell? ⟨Q, 2, none⟩ = some (.int .u16 (p2 : Int)) := Blk.cell hqs 2
  have b4 : wc.cell? ⟨Q, 3, none⟩ = some (.int .u16 (p3 : Int)) := Blk.cell hqs 3
  clear hB hps hqs hlp
  have heq := fun w => eq_arr p0 p1 p2 p3 w
  go_wp2_with fail
  refine HCB.out.mono ?_
  rintro y w1 ⟨rfl, rfl⟩
  go_wp2_with fail
  refine HCD.out.mono ?_
  rintro y w2 ⟨rfl, q, rfl⟩
  by_cases hm0 : m5.data.toList = []
  · as_aux_lemma =>
    rw [hm0]
    have hI : m5.toList = [] := by rw [ByteArray.toList_eq]; exact hm0
    go_wp2_with fail
    go_ret
    have hbl := HB.out.run.below
    exact ⟨ret_bool rfl, hbl.os, hbl.tape, hbl.output, hbl.size, hbl.block⟩
  · as_aux_lemma =>
    have hI : m5.toList.isEmpty = false := by rw [ByteArray.toList_eq, List.isEmpty_eq_false_iff]; exact hm0
    have hI2 : m5.data.toList.isEmpty = false := by rw [List.isEmpty_eq_false_iff]; exact hm0
    rw [hI2]
    go_wp2_with fail
    go_ret
    have hbl := HB.out.run.below
    exact ⟨ret_bool rfl, hbl.os, hbl.tape, hbl.output, hbl.size, hbl.block⟩
end Go.Proofs.Ytocoehjggkkoeaa.Rc
