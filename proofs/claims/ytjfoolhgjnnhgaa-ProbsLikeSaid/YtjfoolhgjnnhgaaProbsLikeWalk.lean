/-
  The walk of the statement ProbsLike: for every list of pairs of bytes it returns true, and writes nothing that was there.
-/
import Derived.Test.YtjfoolhgjnnhgaaProbsLock
import Derived.Test.YtjfoolhgjnnhgaaProbsPairs
import Derived.Test.YtjfoolhgjnnhgaaTail
import Derived.Deep.RegionWith
import Derived.Deep.RegionHeld3
import Derived.Deep.DeepCutAuto
import Derived.Deep.CutBlock
namespace Go.Proofs.Ytjfoolhgjnnhgaa.Rc
open Go.RowKit
/-- The reference's tree has the first 768 places of the developers'. -/
def Part768 (s sr : Tr) : Prop := sr.e = s.e ∧ sr.m = s.m ∧ sr.l = s.l.take 768
theorem part_at {s sr : Tr} (h : Part768 s sr) (q b : Nat) (hq : q < 768) : Part768 (s.at q b) (sr.at q b) := by
  obtain ⟨h1, h2, h3⟩ := h
  have hg : sr.l.getD q 0 = s.l.getD q 0 := by
    rw [h3]; simp [List.getD, hq]
  refine ⟨?_, ?_, ?_⟩
  · show sr.e.bit _ b = s.e.bit _ b
    rw [h1, hg]
  · show 2 * sr.m + b = 2 * s.m + b
    rw [h2]
  · show sr.l.set q _ = (s.l.set q _).take 768
    rw [hg, h3, List.take_set]
theorem part_like {s sr : Tr} (h : Part768 s sr) (v o : Nat) {N : Nat} (hN : 768 ≤ N) (hok : s.Ok N 0) : ∀ k, k ≤ 8 → Part768 (likeN v o s k).1 (likeN v o sr k).1 ∧ (likeN v o sr k).2 = (likeN v o s k).2 := by
  intro k
  induction k with
  | zero => intro _; exact ⟨h, rfl⟩
  | succ k ih =>
    intro hk
    obtain ⟨i1, i2⟩ := ih (by omega)
    have hS := likeN_ok v o N hN hok k (by omega)
    have hpl := place_lt (like := (likeN v o s k).2) hS.2.2.2 (by omega : k < 8) (bitAt_le o (7 - k))
    refine ⟨?_, ?_⟩
    · show Part768 ((likeN v o s k).1.at (place (likeN v o s k).1.m (likeN v o s k).2 (bitAt o (7 - k))) (bitAt v (7 - k))) ((likeN v o sr k).1.at (place (likeN v o sr k).1.m (likeN v o sr k).2 (bitAt o (7 - k))) (bitAt v (7 - k)))
      rw [i2, i1.2.1]
      exact part_at i1 _ _ hpl
    · show ((likeN v o sr k).2 && _) = ((likeN v o s k).2 && _)
      rw [i2]
theorem ok_trlike {s : Tr} {N i : Nat} (h : s.Ok N i) : (⟨s.e, s.l, 1⟩ : Tr).Ok N 0 := ⟨h.1, h.2.1, h.2.2.1, by show 1 < 2 ^ (0 + 1); omega⟩
/-- What a round begins and ends with. -/
def LockedL (w0 : World) (a M : Nat) (vt vu : Value) (B : Nat) (w : World) : Prop := ∃ (s sr : Tr) (O : Paint), s.Ok (2 ^ 10) 0 ∧ s.m = 1 ∧ sr.Ok 768 0 ∧ Part768 s sr ∧ s.e.turns ≤ B ∧ LockT w0 a M s sr vt vu w O
/-- Both encoders at an end. -/
def EndedL (w0 : World) (a M g cap : Nat) (s sr : Tr) (vt vu : Value) (w : World) (O : Paint) : Prop := LockT w0 a M s sr vt vu w O ∧ RefAt w O 2 M g cap sr.e
theorem EndedL.below {w0 w w' : World} {a M g cap : Nat} {s sr : Tr} {vt vu : Value} {O : Paint} (h : EndedL w0 a M g cap s sr vt vu w O) (hb : Below w.heap.size w w') : EndedL w0 a M g cap s sr vt vu w' O :=
  ⟨h.1.below hb, h.2.1.step (Step.of_below_same hb O) (by simp), h.2.2.step (Step.of_below_same hb O) (by simp)⟩
theorem EndedL.drewN {w0 w : World} {a M g cap : Nat} {s sr : Tr} {vt vu : Value} {O : Paint} (h : EndedL w0 a M g cap s sr vt vu w O) (n : Nat) : EndedL w0 a M g cap s sr vt vu (w.drewN n) O :=
  ⟨h.1.idle ((Step.refl [] w O).drewN n), h.2.1.step ((Step.refl [] w O).drewN n) (by simp), h.2.2.step ((Step.refl [] w O).drewN n) (by simp)⟩
theorem EndedL.dev {w0 w : World} {a M g cap : Nat} {s sr : Tr} {vt vu : Value} {O : Paint} (h : EndedL w0 a M g cap s sr vt vu w O) (ht : s.e.turns ≤ 1000000) :
    Calls Try.prog 18 #[.pointer (some ⟨a, 0, none⟩)] w fun x w' => x = .returned (.string ⟨s.e.bytes.toArray⟩) ∧ EndedL w0 a M g cap s sr vt vu w' O :=
  (enc_end h.1.enc ht).mono fun _ _ ⟨h1, h2⟩ => ⟨h1, h.below h2⟩
theorem EndedL.refs {w0 w : World} {a M g cap : Nat} {s sr : Tr} {vt vu : Value} {O : Paint} (h : EndedL w0 a M g cap s sr vt vu w O) (ht : sr.e.turns ≤ 1000000) :
    Calls Try.prog 19 #[.agg #[.slice (some ⟨g, 0, none⟩) (sr.e.turns + 4) cap, .int .u64 (sr.e.size : Int)]] w fun x w' => x = .returned (.string ⟨sr.e.bytes.toArray⟩) ∧ EndedL w0 a M g cap s sr vt vu w' O :=
  (end_any h.2.2.toRow ht sr.e.size).mono fun _ _ ⟨h1, h2⟩ => ⟨h1, h.below h2⟩
set_option maxRecDepth 100000 in
set_option maxHeartbeats 16000000 in
theorem like_walk (a0 : Option Addr) (len cap : Nat) (w : World) (hl : IsPairs w a0 len) :
    Calls Try.prog 3 #[.slice a0 len cap] w fun x w' => x = .returned (.bool true) ∧ Below w.heap.size w w' := by
  have HRUN := Lib.hid (Run.start w)
  have HIS := Lib.hid hl
  have hlen := hl.1
  unfold maxLen at hlen
  clear hl
  go_enter Try.func3, Try.ntmps3
  go_wp2_with fail
  refine (speaks4 w).mono ?_
  rintro x w1 ⟨rfl, hb1⟩
  have hs1 := Step.of_below_same hb1 (fun _ => 0)
  have HR1 := Lib.hid (HRUN.out.step hs1 (by simp))
  clear hb1 hs1 HRUN
  go_wp2_with fail
  refine (new_at 10 10 (by omega) (.inl rfl) w1 (fun _ => 0) 3).mono ?_
  rintro y w2 ⟨rfl, O2, hs2, ht2⟩
  have HR2 := Lib.hid (HR1.out.step hs2 (by simp))
  have HT2 := Lib.hid ht2
  generalize w1.heap.size = tb at ht2 HT2 ⊢
  clear hs2 ht2 HR1
  have HN := Lib.hid (show (2 : Nat) ^ 10 = 1024 from rfl)
  have hNI : (((2 : Nat) ^ 10 : Nat) : Int) = 1024 := rfl
  have hnb : ((((2 : Nat) ^ 10 : Nat) : Int) != 1024) = false := by rw [hNI]; rfl
  generalize (2 : Nat) ^ 10 = N at HT2 HN hnb ⊢
  clear hNI
  go_wp2_with fail
  refine (tree_new 768 (by omega) w2).mono ?_
  rintro y w3 ⟨vu, rfl, hu3, hb3, hnu3⟩
  have hs3 := Step.of_below hb3 O2 4
  have HR3 := Lib.hid (HR2.out.step hs3 (by simp))
  have HT3 := Lib.hid (HT2.out.step hs3 (by simp))
  have HU3 := Lib.hid (show Held w3 (Step.paint O2 w2 4) 4 33 vu ((List.replicate 768 1024).map num) from ⟨by rw [List.length_map]; exact hu3, fun j hj => Step.paint_new (hnu3 j hj)⟩)
  generalize Step.paint O2 w2 4 = O3 at *
  clear hs3 hu3 hb3 hnu3 HR2 HT2
  go_wp2_with fail
  refine (new_enc w3 O3 1).mono ?_
  rintro y w4 ⟨a, rfl, ha, O4, hs4, he4⟩
  have HR4 := Lib.hid (HR3.out.step hs4 (by simp))
  have HT4 := Lib.hid (HT3.out.step hs4 (by simp))
  have HU4 := Lib.hid (HU3.out.step hs4 (by simp))
  have HE4 := Lib.hid he4
  clear hs4 he4 ha HR3 HT3 HU3
  go_wp2_with fail
  refine (new_any (.slice none 0 0) w4).mono ?_
  rintro y w5 ⟨v5, rfl, hrow5, hb5, hmv5⟩
  obtain ⟨g5, cap5, hv5⟩ := hrow5.form (by rw [be_length]; omega)
  rw [be_length] at hv5
  subst hv5
  have hs5 := Step.of_below hb5 O4 2
  have HR5 := Lib.hid (HR4.out.step hs5 (by simp))
  have HT5 := Lib.hid (HT4.out.step hs5 (by simp))
  have HU5 := Lib.hid (HU4.out.step hs5 (by simp))
  have HE5 := Lib.hid (HE4.out.step hs5 (by simp))
  have HRO := Lib.hid (show Held w5 (Step.paint O4 w4 2) 2 5 (.slice (some ⟨g5, 0, none⟩) (Enc.start.turns + 4) cap5) ((be (Enc.start.turns + 4) Enc.start.low).map byte) from Held.fresh hrow5.toOwn (fun k hk => by
    rcases hmv5 with e1 | e1
    · rw [e1] at hk; simp [Value.ownBlock] at hk
    · exact e1 k hk) O4)
  generalize Step.paint O4 w4 2 = O5 at *
  clear hs5 hrow5 hb5 hmv5 HR4 HT4 HU4 HE4
  go_upto_block 0 with (fail)
  have hs6 := Step.alloc_paint w5 O5 2 (.cells #[.slice (some ⟨g5, 0, none⟩) (Enc.start.turns + 4) cap5, .int .u64 (Enc.start.size : Int)] 35)
  have b6 := Blk.new w5 O5 2 (.cells #[.slice (some ⟨g5, 0, none⟩) (Enc.start.turns + 4) cap5, .int .u64 (Enc.start.size : Int)] 35)
  have HL0 : Hid (LockedL w a w5.heap.size (.slice (some ⟨tb, 0, none⟩) N N) vu 0 (w5.alloc (.cells #[.slice (some ⟨g5, 0, none⟩) (Enc.start.turns + 4) cap5, .int .u64 (Enc.start.size : Int)] 35))) := Lib.hid (by
    refine ⟨tr0 (2 ^ 10), tr0 768, Step.paint O5 w5 2, tr0_ok 10, rfl, ⟨fine_start, probs_new _, by simp [tr0], by simp [tr0]⟩, ⟨rfl, rfl, ?_⟩, Nat.le_refl _, HR5.out.step hs6 (by simp), HE5.out.step hs6 (by simp), ⟨g5, cap5, b6, HRO.out.step hs6 (by simp)⟩, ?_, HU5.out.step hs6 (by simp)⟩
    · show List.replicate 768 1024 = (List.replicate (2 ^ 10) 1024).take 768
      rw [List.take_replicate]; rfl
    · show TreeAt _ _ 3 _ (List.replicate (2 ^ 10) 1024)
      rw [show List.replicate (2 ^ 10) 1024 = List.replicate N 1024 by rw [HN.out]]
      exact HT5.out.step hs6 (by simp))
  generalize w5.alloc (.cells #[.slice (some ⟨g5, 0, none⟩) (Enc.start.turns + 4) cap5, .int .u64 (Enc.start.size : Int)] 35) = W6 at *
  generalize w5.heap.size = M at *
  clear hs6 b6 HR5 HT5 HU5 HE5 HRO hnb
  go_cut [4, 7] (fun u _ wx => ∃ vu', vu' = u ∧ LockedL w a M (.slice (some ⟨tb, 0, none⟩) N N) vu' 720 wx)
  case first =>
    as_aux_lemma =>
    -- BEGIN first
    go_wp2_with fail
    go_loopw [4, 7] (fun u i wr => ∃ (j : Nat) (vu' : Value), vu' = u ∧ j ≤ len ∧ j ≤ 30 ∧ i = .int .i64 j ∧ LockedL w a M (.slice (some ⟨tb, 0, none⟩) N N) vu' (24 * j) wr) (fun _ i _ => len - (intOf i).toNat)
    case atStart => exact ⟨0, vu, rfl, by omega, by omega, rfl, HL0.out⟩
    case round =>
      clear HL0
      obtain ⟨j, vu', hvu, hj, hj30, rfl, s, sr, O, hok, hm1, hokr, hpt, htn, hL⟩ := hrel
      subst hvu
      by_cases hlt : j < len ∧ j < 30
      · obtain ⟨hlt, hlt30⟩ := hlt
        rcases HIS.out.2 with h0 | ⟨b, off, rfl, hbl, hact⟩
        · omega
        · obtain ⟨x, y, hcx, hcy, hx, hy⟩ := hact j hlt
          have hbl2 : b < wr.heap.size := Nat.lt_of_lt_of_le hbl hL.run.below.size
          rw [← hL.run.below.cell (p := ⟨b, _, none⟩) hbl] at hcx hcy
          have hd30 : decide ((j : Int) < 30) = true := by rw [decide_eq_true_iff]; omega
          have HOK := Lib.hid hok
          have HM1 := Lib.hid hm1
          have HOR := Lib.hid hokr
          have HPT := Lib.hid hpt
          have HL := Lib.hid hL
          have e1 : (0 : Int) ≤ (j : Int) := by omega
          have e2 : (j : Int) < (len : Int) := by omega
          have e3 : (j : Int).toNat = j := by omega
          have HACT := Lib.hid hact
          clear hact hok hm1 hokr hpt hL
          have hpl := fun k hk => part_like HPT.out x y (N := 2 ^ 10) (by decide) HOK.out k hk
          have HP8 := Lib.hid (hpl 8 (Nat.le_refl _)).1
          have HT := Lib.hid (likeN_turns x y s 8)
          have HO8 := Lib.hid (likeN_ok x y (2 ^ 10) (by decide) HOK.out 8 (Nat.le_refl _))
          have HR8 := Lib.hid (likeN_ok x y 768 (by decide) HOR.out 8 (Nat.le_refl _))
          clear hpl
          go_upto_region 10 with (fail)
          go_cut [40] (fun _ wx => ∃ O, LockT w a M (likeN x y s 8).1 sr (.slice (some ⟨tb, 0, none⟩) N N) vu' wx O)
          case first =>
            as_aux_lemma =>
            have HLd := Lib.hid (HL.out.idle (Step.refl [] wr O).drew)
            have HCB := Lib.hid (tree_putLike (N := 2 ^ 10) HLd.out.enc HLd.out.tree (by decide) HOK.out (by decide) (by decide) HM1.out (by omega) x y hx hy)
            go_region_held3 (fun w' => w'.cell? ⟨b, off + j * 2, none⟩ = some (.int .u8 (x : Int)) ∧ w'.cell? ⟨b, off + j * 2 + 1, none⟩ = some (.int .u8 (y : Int))) (first | exact ⟨z1, z2⟩ | exact ⟨hcx, hcy⟩ | go_keep) ((go_at_call 16; (with_reducible refine HCB.out.mono ?_); rintro q w7 ⟨rfl, hp7⟩; obtain ⟨O7, hL7⟩ := HLd.out.dev hp7; have z1 : w7.cell? ⟨b, off + j * 2, none⟩ = some (.int .u8 (x : Int)) := (hL7.run.below.cell (p := ⟨b, off + j * 2, none⟩) hbl).trans ((HL.out.run.below.cell (p := ⟨b, off + j * 2, none⟩) hbl).symm.trans hcx); have z2 : w7.cell? ⟨b, off + j * 2 + 1, none⟩ = some (.int .u8 (y : Int)) := (hL7.run.below.cell (p := ⟨b, off + j * 2 + 1, none⟩) hbl).trans ((HL.out.run.below.cell (p := ⟨b, off + j * 2 + 1, none⟩) hbl).symm.trans hcy); have HL7 := Lib.hid hL7; clear hp7 hL7))
            all_goals
              go_wp2_with fail
              go_meet
              exact ⟨O7, HL7.out⟩
          case rest =>
          obtain ⟨O7, hL7⟩ := hcut
          have hcx7 : wc.cell? ⟨b, off + j * 2, none⟩ = some (.int .u8 (x : Int)) := (hL7.run.below.cell (p := ⟨b, off + j * 2, none⟩) hbl).trans ((HL.out.run.below.cell (p := ⟨b, off + j * 2, none⟩) hbl).symm.trans hcx)
          have hcy7 : wc.cell? ⟨b, off + j * 2 + 1, none⟩ = some (.int .u8 (y : Int)) := (hL7.run.below.cell (p := ⟨b, off + j * 2 + 1, none⟩) hbl).trans ((HL.out.run.below.cell (p := ⟨b, off + j * 2 + 1, none⟩) hbl).symm.trans hcy)
          clear hcx hcy HL
          obtain ⟨g8, cap8, hR8⟩ := hL7.ref
          obtain ⟨m0, m1, mf0, mf1, mlt⟩ := two hR8.1.1
          have HR9 := Lib.hid hR8
          have HL7 := Lib.hid hL7
          have HSM := Lib.hid (show sr.m = 1 by rw [HPT.out.2.1]; exact HM1.out)
          have HTR := Lib.hid (show sr.e.turns ≤ 900000 by rw [HPT.out.1]; omega)
          have HCR := Lib.hid (putLike_any (w := wc.drew) (N := 768) (show Row wc.drew _ _ from hR8.2.toRow) (row64_of (hL7.idle (Step.refl [] wc O7).drew).row) HOR.out HSM.out (by decide) (by decide) HTR.out x y (by omega) (by omega))
          clear hR8 hL7
          have wx : IntKind.i64.wrap (x : Int) = (x : Int) := IntWalk.i64_in _ (by omega)
          have wy : IntKind.i64.wrap (y : Int) = (y : Int) := IntWalk.i64_in _ (by omega)
          go_upto_region 11 with (fail)
          refine Tail.region_tail 14 6 #[true, true, true, true, true, true, true, true, true, true, true, true, true, true, false, false, false, false, false, false] (by kernel_rfl) (by kernel_rfl) (by kernel_rfl) (by kernel_rfl) ?_
          simp only [List.take_succ_cons, List.take_zero]
          repeat still_step
          refine wpStill_nil ?_
          refine wpAny_ready (rs := [14]) (by kernel_rfl) (by simp) ?_
          refine AllReady.cons rfl (fun K hK => ?_) AllReady.nil
          go_simp
          go_wp2_with (go_at_call 17; (try rw [wx]); (try rw [wy]); (with_reducible refine HCR.out.mono ?_); rintro q w8 ⟨v8, u8, rfl, hrow8, hu8, hb8, hmv8, hnew8⟩; obtain ⟨g9, cap9, hv9⟩ := row_len hrow8; subst hv9; obtain ⟨O9, hL9⟩ := HL7.out.refs (s' := (likeN x y sr 8).1) HR9.out ⟨hb8.os, hb8.tape, hb8.output, hb8.size, hb8.block⟩ hrow8 hmv8 rfl hu8 hnew8; have HL9 := Lib.hid hL9; have c0 := (hb8.cell (p := ⟨M, 0, none⟩) mlt).trans m0; have c1 := (hb8.cell (p := ⟨M, 1, none⟩) mlt).trans m1; have f0 := (hb8.frozen (p := ⟨M, 0, none⟩) mlt).trans mf0; have f1 := (hb8.frozen (p := ⟨M, 1, none⟩) mlt).trans mf1; clear hL9 hrow8 hu8 hb8 hmv8 hnew8)
          refine wpAny_ready (rs := [15]) (by kernel_rfl) (by simp) ?_
          refine AllReady.cons rfl (fun K hK => ?_) AllReady.nil
          go_simp
          refine hK _ _ ?_
          clear hK K
          refine wpAny_take (i := 16) (v := ?v1) rfl (by kernel_rfl) (by kernel_rfl) (by kernel_rfl) (fun _ _ _ h => h) (Or.inl ⟨by rfl, ?h1⟩) ?r1
          case h1 => intro w; go_simp; with_reducible rfl
          refine wpAny_take (i := 17) (v := ?v2) rfl (by kernel_rfl) (by kernel_rfl) (by kernel_rfl) (fun _ _ _ h => h) (Or.inl ⟨by rfl, ?h2⟩) ?r2
          case h2 => intro w; go_simp; with_reducible rfl
          first
          | refine wpAny_ready (rs := [18]) (by kernel_rfl) (by simp) ?_
          | (refine wpAny_ready (rs := [18, 19]) (by kernel_rfl) (by simp) ?_; fail "both")
          refine AllReady.cons rfl (fun K hK => ?_) AllReady.nil
          go_simp
          refine hK _ _ ?_
          clear hK K
          refine wpAny_ready (rs := [19]) (by kernel_rfl) (by simp) ?_
          refine AllReady.cons rfl (fun K hK => ?_) AllReady.nil
          go_simp
          refine hK _ _ ?_
          clear hK K
          refine wpAny_done (by kernel_rfl) ?_ _
          all_goals
            clear c0 c1 f0 f1 m0 m1 mf0 mf1 e1 e2 e3 hcx7 hcy7 wx wy
            generalize (likeN x y s 8).1 = S at *
            generalize (likeN x y sr 8).1 = SR at *
            go_wp2_with fail
            go_roundw
            case rel => exact ⟨j + 1, _, rfl, by omega, by omega, by go_num, ⟨S.e, S.l, 1⟩, ⟨SR.e, SR.l, 1⟩, O9, ok_trlike HO8.out, rfl, ok_trlike HR8.out, ⟨HP8.out.1, rfl, HP8.out.2.2⟩, by have := HT.out; show S.e.turns ≤ _; omega, HL9.out.run, HL9.out.enc, HL9.out.ref, HL9.out.tree, HL9.out.row⟩
            case measure => simp [intOf]; omega
      · have HL : Hid (LockedL w a M (.slice (some ⟨tb, 0, none⟩) N N) vu' 720 wr) := Lib.hid ⟨s, sr, O, hok, hm1, hokr, hpt, by omega, hL⟩
        clear hok hm1 hokr hpt htn hL
        have key : (j < len ∧ ¬ j < 30) ∨ ¬ j < len := by omega
        rcases key with ⟨h1, h2⟩ | h1
        · have d2 : decide ((j : Int) < 30) = false := by rw [decide_eq_false_iff_not]; omega
          clear hlt h2
          go_wp2_with fail
          go_meet
          exact ⟨vu', rfl, HL.out⟩
        · have d1 : decide (j < len) = false := by rw [decide_eq_false_iff_not]; omega
          clear hlt
          go_wp2_with fail
          go_meet
          exact ⟨vu', rfl, HL.out⟩
    -- END first
  case rest =>
    -- BEGIN rest
    clear HL0
    obtain ⟨vu', hvu, s, sr, O, hok, hm1, hokr, hpt, htn, hL⟩ := hcut
    subst hvu
    have hsl := hokr.2.2.1
    have hsd := hok.2.2.1
    obtain ⟨gu, cu, hvu, _, _, hOu, hgu⟩ := hL.row.form (by rw [List.length_map]; omega)
    rw [List.length_map, hsl] at hvu
    obtain ⟨K7, hK7⟩ : ∃ K7 : Nat, K7 = 768 := ⟨_, rfl⟩
    rw [← hK7] at hvu
    subst hvu
    have hKN : K7 ≤ N := by rw [hK7, HN.out]; decide
    have hKs : K7 < 2000 := by omega
    have HK7 := Lib.hid hK7
    clear hK7
    obtain ⟨g4, cap4, hR4⟩ := hL.ref
    have HLn := Lib.hid (show EndedL w a M g4 cap4 s sr (.slice (some ⟨tb, 0, none⟩) N N) (.slice (some ⟨gu, 0, none⟩) K7 cu) wc O from ⟨hL, hR4⟩)
    have HPR := Lib.hid hok.2.1
    have HPT := Lib.hid hpt
    have HSD := Lib.hid hsd
    have HSL := Lib.hid hsl
    have HED := Lib.hid (fun W h => EndedL.dev (w := W) (w0 := w) (a := a) (M := M) (g := g4) (cap := cap4) (s := s) (sr := sr) (vt := .slice (some ⟨tb, 0, none⟩) N N) (vu := .slice (some ⟨gu, 0, none⟩) K7 cu) (O := O) h (by omega))
    have HER := Lib.hid (fun W h => EndedL.refs (w := W) (w0 := w) (a := a) (M := M) (g := g4) (cap := cap4) (s := s) (sr := sr) (vt := .slice (some ⟨tb, 0, none⟩) N N) (vu := .slice (some ⟨gu, 0, none⟩) K7 cu) (O := O) h (by rw [hpt.1]; omega))
    have hby : (⟨sr.e.bytes.toArray⟩ : ByteArray) = ⟨s.e.bytes.toArray⟩ := by rw [hpt.1]
    rw [hby] at HER
    clear hL hR4 hok hm1 hokr hsl hsd hpt hby
    generalize (⟨s.e.bytes.toArray⟩ : ByteArray) = SS at *
    go_wp2_with fail
    go_loopw [8] (fun i wr => ∃ (q nn : Nat), q ≤ K7 ∧ i = .int .i64 q ∧ wr = wc.drewN nn) (fun i _ => K7 - (intOf i).toNat)
    case atStart => exact ⟨0, 0, by omega, rfl, rfl⟩
    case round =>
      obtain ⟨q, nn, hq, rfl, rfl⟩ := hrel
      by_cases hqN : q < K7
      · as_aux_lemma =>
        have hq768 : q < 768 := by rw [← HK7.out]; exact hqN
        have hql : q < sr.l.length := by rw [HSL.out]; exact hq768
        have hqd : q < s.l.length := by
          have h9 : s.l.length = 1024 := HSD.out
          omega
        have heq : sr.l.getD q 0 = s.l.getD q 0 := by rw [HPT.out.2.2]; simp [List.getD, hq768]
        have c1 := HLn.out.1.tree.cellAt hqd
        have c2 := HLn.out.1.row.cell (j := q) (x := .int .u64 ((sr.l.getD q 0 : Nat) : Int)) (by simp [hql, List.getD, num])
        rw [heq] at c2
        have hpq := probs_get HPR.out hqd
        generalize s.l.getD q 0 = xx at *
        have hne : (IntKind.u64.wrap (xx : Int) != (xx : Int)) = false := by rw [IntWalk.u64_in _ (by omega)]; simp
        have hqNN : q < N := by omega
        clear hql hqd heq hq768
        go_wp2_with fail
        go_quiet (fail)
        go_wp2_with fail
        go_roundw
        case rel => exact ⟨q + 1, _, by omega, by go_num, rfl⟩
        case measure => simp [intOf]; omega
      · as_aux_lemma =>
        obtain rfl : q = K7 := by omega
        have HLd := Lib.hid (HLn.out.drewN (nn + 1))
        obtain ⟨m0, m1, _, _, mlt⟩ := two HLn.out.2.1.1
        clear HLn
        have HLn := HLd
        clear HLd
        go_wp2_with fail
        go_region_with ((first | (go_at_call 18; refine (HED.out _ (by exact HLn.out)).mono ?_; rintro y w6 ⟨rfl, hl6⟩; obtain ⟨k0, k1, _, _, _⟩ := two hl6.2.1.1; have HLn := Lib.hid hl6; clear hl6) | (go_at_call 19; refine (HER.out _ (by exact HLn.out)).mono ?_; rintro y w6 ⟨rfl, hl6⟩; obtain ⟨k0, k1, _, _, _⟩ := two hl6.2.1.1; have HLn := Lib.hid hl6; clear hl6)))
        all_goals
          go_wp2_with fail
          go_ret
          exact ⟨ret_bool (by simp), HLn.out.1.run.below⟩
    -- END rest
end Go.Proofs.Ytjfoolhgjnnhgaa.Rc
