/-
  The walk of the statement ProbsPut: for every number of bits, every list of numbers, forth or back, it returns true, and writes nothing that was there.
-/
import Derived.Test.YtocoehjggkkoeaaProbsLock
import Derived.Deep.RegionWith
import Derived.Deep.RegionHeld3
import Derived.Deep.DeepCutAuto
import Derived.Deep.CutBlock
namespace Go.Proofs.Ytocoehjggkkoeaa.Rc
open Go.RowKit
/-- What a round begins and ends with. -/
def LockedT (w0 : World) (a M n : Nat) (vt vu : Value) (B : Nat) (w : World) : Prop := ∃ (s : Tr) (O : Paint), s.Ok (2 ^ n) 0 ∧ s.m = 1 ∧ s.e.turns ≤ B ∧ LockT w0 a M s s vt vu w O
theorem again_ok {s : Tr} {N i : Nat} (h : s.Ok N i) : (⟨s.e, s.l, 1⟩ : Tr).Ok N 0 := ⟨h.1, h.2.1, h.2.2.1, by show 1 < 2 ^ (0 + 1); omega⟩
theorem ofNat_pow (n : Nat) : (2 : Int) * ((2 ^ n : Nat) : Int) = ((2 ^ (n + 1) : Nat) : Int) := by rw [Nat.pow_succ]; omega
set_option maxRecDepth 100000 in
set_option maxHeartbeats 16000000 in
theorem put_walk (bits : Nat) (hbits : bits < 256) (a0 : Option Addr) (len cap : Nat) (back : Bool) (w : World) (hl : IsNums w a0 len) :
    Calls Try.prog 6 #[.int .u8 (bits : Int), .slice a0 len cap, .bool back] w fun x w' => x = .returned (.bool true) ∧ Below w.heap.size w w' := by
  have HRUN := Lib.hid (Run.start w)
  have HIS := Lib.hid hl
  have hlen := hl.1
  unfold maxLen at hlen
  obtain ⟨n, hn⟩ : ∃ n : Nat, n = 1 + bits % 8 := ⟨_, rfl⟩
  have HNI := Lib.hid (show (1 : Int) + (bits : Int) % 8 = (n : Int) by omega)
  have hn1 : 1 ≤ n := by omega
  have hn8 : n ≤ 8 := by omega
  clear hl hn
  go_enter Try.func6, Try.ntmps6
  go_wp2_with fail
  refine (speaks4 w).mono ?_
  rintro x w1 ⟨rfl, hb1⟩
  have hs1 := Step.of_below_same hb1 (fun _ => 0)
  have HR1 := Lib.hid (HRUN.out.step hs1 (by simp))
  clear hb1 hs1 HRUN
  go_upto_region 4 with (fail)
  rw [HNI.out]
  clear HNI
  go_wp2_with fail
  have hp8 : ∀ k, k ≤ 8 → 2 ^ k ≤ 256 := fun k hk => Nat.pow_le_pow_right (n := 2) (by omega) hk
  have HP8 := Lib.hid hp8
  clear hp8
  go_loop [8, 9] (fun p i => ∃ k : Nat, k ≤ n ∧ i = .int .i64 k ∧ p = .int .i64 ((2 ^ k : Nat) : Int)) (fun _ i => n - (intOf i).toNat)
  case atStart => exact ⟨0, by omega, rfl, rfl⟩
  case round =>
    obtain ⟨k, hk, rfl, rfl⟩ := hrel
    have hpk := HP8.out k (by omega)
    by_cases hlt : k < n
    · have HPS := Lib.hid (show 2 ^ (k + 1) = 2 ^ k * 2 from Nat.pow_succ ..)
      generalize 2 ^ k = pk at *
      go_wp2_with fail
      go_round
      case rel => exact ⟨k + 1, by omega, by go_num, by rw [HPS.out]; go_num⟩
      case measure => simp [intOf]; omega
    · obtain rfl : k = n := by omega
      have hN2 : 2 ≤ 2 ^ k := by
        have : 2 ^ 1 ≤ 2 ^ k := Nat.pow_le_pow_right (n := 2) (by omega) hn1
        omega
      clear hlt
      generalize hNN : 2 ^ k = N at *
      have HNN := Lib.hid hNN
      clear hNN
      go_wp2_with fail
      refine (new_at k k (by omega) (.inl rfl) w1 (fun _ => 0) 3).mono ?_
      rw [HNN.out]
      rintro y w2 ⟨rfl, O2, hs2, ht2⟩
      have HR2 := Lib.hid (HR1.out.step hs2 (by simp))
      have HT2 := Lib.hid ht2
      generalize w1.heap.size = tb at ht2 HT2 ⊢
      clear hs2 ht2 HR1
      go_wp2_with fail
      refine (tree_new N (by omega) w2).mono ?_
      rintro y w3 ⟨vu, rfl, hu3, hb3, hnu3⟩
      have hs3 := Step.of_below hb3 O2 4
      have HR3 := Lib.hid (HR2.out.step hs3 (by simp))
      have HT3 := Lib.hid (HT2.out.step hs3 (by simp))
      have HU3 := Lib.hid (show Held w3 (Step.paint O2 w2 4) 4 27 vu ((List.replicate N 1024).map num) from ⟨by rw [List.length_map]; exact hu3, fun j hj => Step.paint_new (hnu3 j hj)⟩)
      generalize Step.paint O2 w2 4 = O3 at *
      clear hs3 hu3 hb3 hnu3 HR2 HT2
      go_wp2_with fail
      refine (new_enc w3 O3 1).mono ?_
      rintro y w4 ⟨a, rfl, ha, O4, hs4, he4⟩
      have HR4 := Lib.hid (HR3.out.step hs4 (by simp))
      have HT4 := Lib.hid (HT3.out.step hs4 (by simp))
      have HU4 := Lib.hid (HU3.out.step hs4 (by simp))
      have HE4 := Lib.hid he4
      clear hs4 he4 ha HR3 HT3 HU3
      go_wp2_with fail
      refine (new_any (.slice none 0 0) w4).mono ?_
      rintro y w5 ⟨v5, rfl, hrow5, hb5, hmv5⟩
      obtain ⟨g5, cap5, hv5⟩ := hrow5.form (by rw [be_length]; omega)
      rw [be_length] at hv5
      subst hv5
      have hs5 := Step.of_below hb5 O4 2
      have HR5 := Lib.hid (HR4.out.step hs5 (by simp))
      have HT5 := Lib.hid (HT4.out.step hs5 (by simp))
      have HU5 := Lib.hid (HU4.out.step hs5 (by simp))
      have HE5 := Lib.hid (HE4.out.step hs5 (by simp))
      have HRO := Lib.hid (show Held w5 (Step.paint O4 w4 2) 2 5 (.slice (some ⟨g5, 0, none⟩) (Enc.start.turns + 4) cap5) ((be (Enc.start.turns + 4) Enc.start.low).map byte) from Held.fresh hrow5.toOwn (fun k hk => by
        rcases hmv5 with e1 | e1
        · rw [e1] at hk; simp [Value.ownBlock] at hk
        · exact e1 k hk) O4)
      generalize Step.paint O4 w4 2 = O5 at *
      clear hs5 hrow5 hb5 hmv5 HR4 HT4 HU4 HE4
      go_upto_block 2 with (fail)
      have hs6 := Step.alloc_paint w5 O5 2 (.cells #[.slice (some ⟨g5, 0, none⟩) (Enc.start.turns + 4) cap5, .int .u64 (Enc.start.size : Int)] 29)
      have b6 := Blk.new w5 O5 2 (.cells #[.slice (some ⟨g5, 0, none⟩) (Enc.start.turns + 4) cap5, .int .u64 (Enc.start.size : Int)] 29)
      have HL0 : Hid (LockedT w a w5.heap.size k (.slice (some ⟨tb, 0, none⟩) N N) vu 0 (w5.alloc (.cells #[.slice (some ⟨g5, 0, none⟩) (Enc.start.turns + 4) cap5, .int .u64 (Enc.start.size : Int)] 29))) := Lib.hid (by
        refine ⟨tr0 N, Step.paint O5 w5 2, by rw [← HNN.out]; exact tr0_ok k, rfl, Nat.le_refl _, HR5.out.step hs6 (by simp), HE5.out.step hs6 (by simp), ⟨g5, cap5, b6, HRO.out.step hs6 (by simp)⟩, HT5.out.step hs6 (by simp), HU5.out.step hs6 (by simp)⟩)
      generalize w5.alloc (.cells #[.slice (some ⟨g5, 0, none⟩) (Enc.start.turns + 4) cap5, .int .u64 (Enc.start.size : Int)] 29) = W6 at *
      generalize w5.heap.size = M at *
      clear hs6 b6 HR5 HT5 HU5 HE5 HRO
      go_cut [11, 14] (fun u _ wx => ∃ vu', vu' = u ∧ LockedT w a M k (.slice (some ⟨tb, 0, none⟩) N N) vu' 960 wx)
      case first =>
        as_aux_lemma =>
        -- BEGIN first
        go_wp2_with fail
        go_loopw [11, 14] (fun u i wr => ∃ (j : Nat) (vu' : Value), vu' = u ∧ j ≤ len ∧ j ≤ 40 ∧ i = .int .i64 j ∧ LockedT w a M k (.slice (some ⟨tb, 0, none⟩) N N) vu' (24 * j) wr) (fun _ i _ => len - (intOf i).toNat)
        case atStart => exact ⟨0, vu, rfl, by omega, by omega, rfl, HL0.out⟩
        case round =>
          clear HL0
          obtain ⟨j, vu', hvu, hj, hj40, rfl, s, O, hok, hm1, htn, hL⟩ := hrel
          subst hvu
          by_cases hlt : j < len ∧ j < 40
          · obtain ⟨hlt, hlt40⟩ := hlt
            rcases HIS.out.2 with h0 | ⟨b, off, rfl, hbl, hact⟩
            · omega
            · obtain ⟨x, hcx, hx⟩ := hact j hlt
              rw [← hL.run.below.cell (p := ⟨b, _, none⟩) hbl] at hcx
              obtain ⟨v, hv⟩ : ∃ v : Nat, v = x % N := ⟨_, rfl⟩
              have hvN : v < N := by rw [hv]; exact Nat.mod_lt _ (by omega)
              have HVI := Lib.hid (show (x : Int) % (N : Int) = (v : Int) by rw [hv]; simp)
              have hd40 : decide ((j : Int) < 40) = true := by rw [decide_eq_true_iff]; omega
              have HOK := Lib.hid hok
              have HM1 := Lib.hid hm1
              have HL := Lib.hid hL
              have hcz : ((N : Int) == 0) = false := by rw [beq_eq_false_iff_ne]; omega
              clear hact hok hm1 hL hv
              go_upto_region 15 with (fail)
              rw [HVI.out]
              clear hcx hcz
              have HT := Lib.hid (putN_turns back k v s k)
              have HOK2 := Lib.hid (putN_ok back k v HOK.out k (Nat.le_refl _))
              have hvp : v < 2 ^ k := by rw [HNN.out]; exact hvN
              have HVP := Lib.hid hvp
              clear hvp
              cases back
              all_goals
                go_upto_region 18 with (first | (go_at_call 36; refine (tree_putBack HL.out.enc HL.out.tree (by decide) HOK.out HM1.out (by omega) (by omega) v HVP.out).mono ?_; rintro y w7 ⟨rfl, hp7⟩; obtain ⟨O7, hL7⟩ := HL.out.dev hp7; have HL7 := Lib.hid hL7; clear hp7 hL7) | (go_at_call 37; refine (tree_put HL.out.enc HL.out.tree (by decide) HOK.out HM1.out (by omega) (by omega) v HVP.out).mono ?_; rintro y w7 ⟨rfl, hp7⟩; obtain ⟨O7, hL7⟩ := HL.out.dev hp7; have HL7 := Lib.hid hL7; clear hp7 hL7))
                obtain ⟨g8, cap8, hR8⟩ := HL7.out.ref
                obtain ⟨m0, m1, mf0, mf1, mlt⟩ := two hR8.1.1
                have HR8 := Lib.hid hR8
                clear hR8
                go_wp2_with fail
                refine (put_any HR8.out.2.toRow (row64_of HL7.out.row) HOK.out HM1.out (by omega) (by omega) v HVP.out _).mono ?_
                rintro y w8 ⟨v8, u8, rfl, hrow8, hu8, hb8, hmv8, hnew8⟩
                obtain ⟨g9, cap9, hv9⟩ := row_len hrow8
                subst hv9
                obtain ⟨O9, hL9⟩ := HL7.out.refs HR8.out hb8 hrow8 hmv8 rfl hu8 hnew8
                have HL9 := Lib.hid hL9
                have c0 := (hb8.cell (p := ⟨M, 0, none⟩) mlt).trans m0
                have c1 := (hb8.cell (p := ⟨M, 1, none⟩) mlt).trans m1
                have f0 := (hb8.frozen (p := ⟨M, 0, none⟩) mlt).trans mf0
                have f1 := (hb8.frozen (p := ⟨M, 1, none⟩) mlt).trans mf1
                clear hL9 hrow8 hu8 hb8 hmv8 hnew8 m0 m1 mf0 mf1
                generalize putN _ k v s k = S at *
                go_wp2_with fail
                go_roundw
                case rel => exact ⟨j + 1, _, rfl, by omega, by omega, by go_num, ⟨S.e, S.l, 1⟩, O9, again_ok HOK2.out, rfl, by have := HT.out; show S.e.turns ≤ _; omega, HL9.out.run, HL9.out.enc, HL9.out.ref, HL9.out.tree, HL9.out.row⟩
                case measure => simp [intOf]; omega
          · have HL : Hid (LockedT w a M k (.slice (some ⟨tb, 0, none⟩) N N) vu' 960 wr) := Lib.hid ⟨s, O, hok, hm1, by omega, hL⟩
            clear hok hm1 htn hL
            have key : (j < len ∧ ¬ j < 40) ∨ ¬ j < len := by omega
            rcases key with ⟨h1, h2⟩ | h1
            · have d2 : decide ((j : Int) < 40) = false := by rw [decide_eq_false_iff_not]; omega
              clear hlt h2
              go_wp2_with fail
              go_meet
              exact ⟨vu', rfl, HL.out⟩
            · have d1 : decide (j < len) = false := by rw [decide_eq_false_iff_not]; omega
              clear hlt
              go_wp2_with fail
              go_meet
              exact ⟨vu', rfl, HL.out⟩
        -- END first
      case rest =>
        clear HL0
        obtain ⟨vu', hvu, s, O, hok, hm1, htn, hL⟩ := hcut
        subst hvu
        have hsl := hok.2.2.1
        rw [HNN.out] at hsl
        obtain ⟨gu, cu, hvu, _, _, hOu, hgu⟩ := hL.row.form (by rw [List.length_map]; omega)
        rw [List.length_map, hsl] at hvu
        subst hvu
        obtain ⟨g4, cap4, hR4⟩ := hL.ref
        obtain ⟨m0, m1, mf0, mf1, mlt⟩ := two hR4.1.1
        have HLn := Lib.hid (EndedT.drew ⟨hL, hR4⟩)
        have HED := Lib.hid (fun W h => EndedT.dev (w := W) (w0 := w) (a := a) (M := M) (g := g4) (cap := cap4) (s := s) (vt := .slice (some ⟨tb, 0, none⟩) N N) (vu := .slice (some ⟨gu, 0, none⟩) N cu) (O := O) h (by omega))
        have HER := Lib.hid (fun W h => EndedT.refs (w := W) (w0 := w) (a := a) (M := M) (g := g4) (cap := cap4) (s := s) (vt := .slice (some ⟨tb, 0, none⟩) N N) (vu := .slice (some ⟨gu, 0, none⟩) N cu) (O := O) h (by omega))
        have HPR := Lib.hid hok.2.1
        have HSL := Lib.hid hsl
        clear hL hR4 hok hm1 hsl
        generalize (⟨s.e.bytes.toArray⟩ : ByteArray) = SS at *
        have hbb : ((N : Int) != (N : Int)) = false := by simp
        go_upto_region 19 with (fail)
        go_region_with ((first | (go_at_call 19; (with_reducible refine (HED.out _ HLn.out).mono ?_); rintro y w6 ⟨rfl, hl6⟩; obtain ⟨k0, k1, _, _, _⟩ := two hl6.2.1.1; have HLn := Lib.hid hl6; clear hl6) | (go_at_call 20; (with_reducible refine (HER.out _ HLn.out).mono ?_); rintro y w6 ⟨rfl, hl6⟩; obtain ⟨k0, k1, _, _, _⟩ := two hl6.2.1.1; have HLn := Lib.hid hl6; clear hl6)))
        all_goals
          go_wp2_with fail
          clear k0 k1 m0 m1 mf0 mf1 hbb
          go_loopw [16] (fun i wr => ∃ (q nn : Nat), q ≤ N ∧ i = .int .i64 q ∧ wr = w6.drewN nn) (fun i _ => N - (intOf i).toNat)
          case atStart => exact ⟨0, 0, by omega, rfl, rfl⟩
          case round =>
            obtain ⟨q, nn, hq, rfl, rfl⟩ := hrel
            by_cases hqN : q < N
            · have hql : q < s.l.length := by rw [HSL.out]; exact hqN
              have c1 := HLn.out.1.tree.cellAt hql
              have c2 := HLn.out.1.row.cell (j := q) (x := .int .u64 ((s.l.getD q 0 : Nat) : Int)) (by simp [hql, List.getD, num])
              have hpq := probs_get HPR.out hql
              generalize s.l.getD q 0 = xx at *
              have hne : (IntKind.u64.wrap (xx : Int) != (xx : Int)) = false := by rw [IntWalk.u64_in _ (by omega)]; simp
              clear hql
              go_wp2_with fail
              go_quiet (fail)
              go_wp2_with fail
              go_roundw
              case rel => exact ⟨q + 1, _, by omega, by go_num, rfl⟩
              case measure => simp [intOf]; omega
            · obtain rfl : q = N := by omega
              go_wp2_with fail
              go_ret
              have hbl := HLn.out.1.run.below
              exact ⟨rfl, hbl.os, hbl.tape, hbl.output, hbl.size, hbl.block⟩
end Go.Proofs.Ytocoehjggkkoeaa.Rc
