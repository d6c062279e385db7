/-
  Contract of the reference of layer 4: PutLike.
-/
import Derived.Test.YtjfoolhgjnnhgaaProbsRef
namespace Go.Proofs.Ytjfoolhgjnnhgaa.Rc
open Go.RowKit
set_option maxRecDepth 100000 in
set_option maxHeartbeats 2000000 in
theorem putLike_any {w : World} {ve vt : Value} {s : Tr} {N : Nat} (he : Row w ve (be (s.e.turns + 4) s.e.low)) (hl : Row64 w vt s.l) (hok : s.Ok N 0) (hm : s.m = 1) (hN7 : 768 ≤ N) (hN2 : N ≤ 65536) (ht : s.e.turns ≤ 900000) (v o : Nat) (hv : v ≤ 255) (ho : o ≤ 255) :
    Calls Try.prog 17 #[.agg #[ve, .int .u64 (s.e.size : Int)], vt, .int .i64 (v : Int), .int .i64 (o : Int)] w fun x w' => ∃ ve' vt', x = .returned (.tuple #[.agg #[ve', .int .u64 ((likeN v o s 8).1.e.size : Int)], vt']) ∧
      Row w' ve' (be ((likeN v o s 8).1.e.turns + 4) (likeN v o s 8).1.e.low) ∧ Row64 w' vt' (likeN v o s 8).1.l ∧ Below w.heap.size w w' ∧ Moved w ve ve' ∧ (∀ k, vt'.ownBlock = some k → w.heap.size ≤ k) := by
  have hN : 0 < N := by omega
  obtain ⟨g, cap, hve⟩ := he.form (by rw [be_length]; omega)
  rw [be_length] at hve
  subst hve
  have hsl := hok.2.2.1
  obtain ⟨g1, cap1, hvt⟩ := hl.form (by omega)
  rw [hsl] at hvt
  subst hvt
  have hrow64 : w.ownsRow 0 33 1 (.slice (some ⟨g1, 0, none⟩) N cap1) N (s.l.map num) := by have h9 := hl; unfold Row64 at h9; rw [hsl] at h9; exact h9
  obtain ⟨i0, hi, hz0, hz1, hz2⟩ := info_parts info64
  have hb1 : 0 + N ≤ maxLen := by unfold maxLen; omega
  have hb2 : (0 + N) * 8 ≤ 140737488355328 := by omega
  have HLN : Hid ((s.l.map num).length = N * 1) := Lib.hid (by simp [hsl])
  have HCE : Hid (∀ A B C : Obj, ∀ j u, (s.l.map num)[j]? = some u → (((w.alloc A).alloc B).alloc C).cell? ((⟨g1, 0, none⟩ : Addr).add j) = some u) := Lib.hid (fun A B C => World.ownsRow.cells (((hrow64.alloc A).alloc B).alloc C) rfl)
  have HE := Lib.hid he
  have HOK := Lib.hid hok
  have HM := Lib.hid hm
  have HSL := Lib.hid hsl
  clear hrow64 hl he hok hm hsl
  go_enter Try.func17, Try.ntmps17
  go_wp2_with (at_builtin; refine wpList_append_more _ rfl _ _ 28 rfl 33 i0 (.int .u64 0) 1 8 Try.underlying28 hi hz0 hz1 hz2 rfl (by decide) (.slice (some ⟨w.heap.size + 1 + 1, 0, none⟩) 0 0) 0 [] rfl (empty_at (by simp)) ⟨g1, 0, none⟩ N cap1 hN (s.l.map num) rfl HLN.out (HCE.out _ _ _) (ones64 _) hb1 hb2 ?_; intro g2 cap2 w2 hown2 hgr2 hmv2; obtain ⟨hr2, hbl2, hg2⟩ := fresh_at hown2 hgr2 hmv2; have HR2 := Lib.hid hr2; have HB2 := Lib.hid hbl2; clear hown2 hgr2 hmv2 hr2 hbl2; rw [Nat.zero_add])
  have H0 := Lib.hid (putting_start HE.out HSL.out HR2.out HB2.out)
  have hgg : w.heap.size ≤ g2 := by simp at hg2; omega
  clear hg2 HCE HLN HR2 HB2 HE
  go_loopw [10, 11, 12, 13, 14, 15] (fun m l i _ _ _ wr => ∃ k : Nat, k ≤ 8 ∧ i = .int .i64 (7 - (k : Int)) ∧ m = .int .i64 ((likeN v o s k).1.m : Int) ∧ l = .bool (likeN v o s k).2 ∧ Putting w g (likeN v o s k).1 g2 N cap2 wr) (fun _ _ i _ _ _ _ => (intOf i + 1).toNat)
  case atStart => exact ⟨0, by omega, rfl, by rw [show (likeN v o s 0).1.m = 1 from HM.out]; rfl, rfl, H0.out⟩
  case round =>
    obtain ⟨k, hk, rfl, rfl, rfl, hput⟩ := hrel
    have hS := likeN_ok v o N hN7 HOK.out k hk
    have hT := likeN_turns v o s k
    by_cases hlt : k < 8
    · have hq := place_lt (like := (likeN v o s k).2) hS.2.2.2 hlt (bitAt_le o (7 - k))
      have hm256 : (likeN v o s k).1.m < 256 := Nat.lt_of_lt_of_le hS.2.2.2 (by have : 2 ^ (k + 1) ≤ 2 ^ 8 := Nat.pow_le_pow_right (by omega) (by omega); omega)
      have HST1 := Lib.hid (show (likeN v o s (k + 1)).1 = (likeN v o s k).1.at (place (likeN v o s k).1.m (likeN v o s k).2 (bitAt o (7 - k))) (bitAt v (7 - k)) from rfl)
      have HST2 := Lib.hid (show (likeN v o s (k + 1)).2 = ((likeN v o s k).2 && (bitAt v (7 - k) == bitAt o (7 - k))) from rfl)
      have hT2 : (likeN v o s k).1.e.turns ≤ 999000 := by omega
      have hi7 : (7 - (k : Int)) = ((7 - k : Nat) : Int) := by omega
      rw [hi7]
      have HPL : Hid (∀ m like c, place m like c = if like then m + 256 + 256 * c else m) := Lib.hid (fun _ _ _ => rfl)
      generalize likeN v o s k = SL at *
      obtain ⟨S, like⟩ := SL
      have HST1' : Hid ((likeN v o s (k + 1)).1 = S.at (place S.m like (bitAt o (7 - k))) (bitAt v (7 - k))) := HST1
      have HST2' : Hid ((likeN v o s (k + 1)).2 = (like && (bitAt v (7 - k) == bitAt o (7 - k)))) := HST2
      clear HST1 HST2
      simp only at hS hT hT2 hq hm256 hput
      obtain ⟨g3, cap3, hc0, hc1, hrow, hrow64, hbel, hor⟩ := hput
      have HOR := Lib.hid hor
      clear hor
      obtain ⟨hp0, hp1, hf0, hf1, hplt⟩ := two hc0
      have hlen := hS.2.2.1
      have hbA := bitAt_le v (7 - k)
      have hbB := bitAt_le o (7 - k)
      have h9 : wr.ownsRow 0 33 1 (.slice (some ⟨g2, 0, none⟩) N cap2) N (S.l.map num) := by have h8 := hrow64; unfold Row64 at h8; rw [hlen] at h8; exact h8
      have HCL := Lib.hid (fun (q : Nat) (hq : q < 768) => (show wr.cell? ⟨g2, q, none⟩ = some (.int .u64 ((S.l.getD q 0 : Nat) : Int)) ∧ wr.frozen? ⟨g2, q, none⟩ = false from ⟨by
        rw [World.ownsRow.cellAt h9 q (by omega)]
        simp [List.getD, show q < S.l.length by omega, num], World.ownsRow.frozenAt h9 q⟩))
      have HPR := Lib.hid (fun (q : Nat) (hq : q < 768) => probs_get hS.2.1 (show q < S.l.length by omega))
      have hg2lt : g2 < wr.heap.size := ownsRow_lt h9 g2 rfl
      have hg2x : w.heap.size ≠ g2 := fun e => row64_ne hrow64 hc0 (by decide) e.symm
      have HC0 := Lib.hid hc0
      have HC1 := Lib.hid hc1
      have HRow := Lib.hid hrow
      have HRow64 := Lib.hid hrow64
      have HBel := Lib.hid hbel
      have HS := Lib.hid hS
      have HSL2 := Lib.hid hlen
      have HQ := Lib.hid hq
      have HI7 := Lib.hid hi7
      clear hc0 hc1 hrow hrow64 hbel hS hlen hT h9 hq hi7
      go_wp2_with fail
      refine (bit_any v (7 - k) (by omega) (by omega) _).mono ?_
      rintro x w3 ⟨rfl, rfl⟩
      go_wp2_with fail
      refine (bit_any o (7 - k) (by omega) (by omega) _).mono ?_
      rintro x w3 ⟨rfl, rfl⟩
      generalize bitAt v (7 - k) = b at *
      generalize bitAt o (7 - k) = c at *
      cases like
      · go_wp2_with fail
        have HST : Hid ((likeN v o s (k + 1)).1 = S.at S.m b) := HST1'
        have hq : S.m < 768 := HQ.out
        obtain ⟨hcell, hfr⟩ := HCL.out S.m hq
        have hp := HPR.out S.m hq
        have HCB := Lib.hid (fun (W : World) (hW : Row W (.slice (some ⟨g3, 0, none⟩) (S.e.turns + 4) cap3) (be (S.e.turns + 4) S.e.low)) => bitb_any (w := W) hW HS.out.1 (by omega) (S.l.getD S.m 0) b hp.1 hp.2 hbA)
        generalize hpe : S.l.getD S.m 0 = p at *
        have HPE := Lib.hid hpe
        clear hpe
        have hqN : S.m < N := by omega
        go_region_with ((go_at_call 61; refine (HCB.out _ (by exact HRow.out)).mono ?_; rintro x w3 ⟨v3, rfl, hrow3, hb3, hmv3⟩; obtain ⟨g4, cap4, hv4⟩ := row_len hrow3; subst hv4; have hx0 := (hb3.cell (p := ⟨w.heap.size, 0, none⟩) hplt).trans hp0; have hx1 := (hb3.cell (p := ⟨w.heap.size, 1, none⟩) hplt).trans hp1; have hy0 := (hb3.frozen (p := ⟨w.heap.size, 0, none⟩) hplt).trans hf0; have hy1 := (hb3.frozen (p := ⟨w.heap.size, 1, none⟩) hplt).trans hf1; have hz3 := (hb3.cell (p := ⟨g2, S.m, none⟩) hg2lt).trans hcell; have hz4 := (hb3.frozen (p := ⟨g2, S.m, none⟩) hg2lt).trans hfr; have HR3 := Lib.hid hrow3; have HB3 := Lib.hid hb3; have HMV3 := Lib.hid hmv3; clear hrow3 hb3 hmv3))
        all_goals
          have HPS := Lib.hid (putting_step HPE.out HSL2.out HC0.out HC1.out HRow64.out HBel.out HR3.out HB3.out hgg HOR.out HMV3.out)
          clear hx0 hx1 hy0 hy1 hz3 hz4
          have hd : ((b : Int) == (c : Int)) = (b == c) := by rw [Bool.eq_iff_iff, beq_iff_eq, beq_iff_eq]; omega
          have HD := Lib.hid hd
          clear hd
          go_wp2
          go_roundw
          case rel => exact ⟨k + 1, by omega, by rw [← HI7.out]; go_num, by rw [HST.out]; unfold Tr.at; go_num, by rw [HST2'.out]; rfl, by rw [HST.out]; exact HPS.out⟩
          case measure => simp [intOf]
      · go_wp2_with fail
        obtain ⟨q, hqe⟩ : ∃ q : Nat, q = S.m + 256 + 256 * c := ⟨_, rfl⟩
        have hqI : ((S.m : Int) + 256 + 256 * (c : Int)) = (q : Int) := by omega
        rw [hqI]
        have HST : Hid ((likeN v o s (k + 1)).1 = S.at q b) := Lib.hid (by rw [hqe]; exact HST1'.out)
        have hq : q < 768 := by have := HQ.out; rw [HPL.out, if_pos rfl] at this; omega
        clear hqe hqI
        obtain ⟨hcell, hfr⟩ := HCL.out q hq
        have hp := HPR.out q hq
        have HCB := Lib.hid (fun (W : World) (hW : Row W (.slice (some ⟨g3, 0, none⟩) (S.e.turns + 4) cap3) (be (S.e.turns + 4) S.e.low)) => bitb_any (w := W) hW HS.out.1 (by omega) (S.l.getD q 0) b hp.1 hp.2 hbA)
        generalize hpe : S.l.getD q 0 = p at *
        have HPE := Lib.hid hpe
        clear hpe
        have hqN : q < N := by omega
        go_region_with ((go_at_call 61; refine (HCB.out _ (by exact HRow.out)).mono ?_; rintro x w3 ⟨v3, rfl, hrow3, hb3, hmv3⟩; obtain ⟨g4, cap4, hv4⟩ := row_len hrow3; subst hv4; have hx0 := (hb3.cell (p := ⟨w.heap.size, 0, none⟩) hplt).trans hp0; have hx1 := (hb3.cell (p := ⟨w.heap.size, 1, none⟩) hplt).trans hp1; have hy0 := (hb3.frozen (p := ⟨w.heap.size, 0, none⟩) hplt).trans hf0; have hy1 := (hb3.frozen (p := ⟨w.heap.size, 1, none⟩) hplt).trans hf1; have hz3 := (hb3.cell (p := ⟨g2, q, none⟩) hg2lt).trans hcell; have hz4 := (hb3.frozen (p := ⟨g2, q, none⟩) hg2lt).trans hfr; have HR3 := Lib.hid hrow3; have HB3 := Lib.hid hb3; have HMV3 := Lib.hid hmv3; clear hrow3 hb3 hmv3))
        all_goals
          have HPS := Lib.hid (putting_step HPE.out HSL2.out HC0.out HC1.out HRow64.out HBel.out HR3.out HB3.out hgg HOR.out HMV3.out)
          clear hx0 hx1 hy0 hy1 hz3 hz4
          have hd : ((b : Int) == (c : Int)) = (b == c) := by rw [Bool.eq_iff_iff, beq_iff_eq, beq_iff_eq]; omega
          have HD := Lib.hid hd
          clear hd
          go_wp2
          go_roundw
          case rel => exact ⟨k + 1, by omega, by rw [← HI7.out]; go_num, by rw [HST.out]; unfold Tr.at; go_num, by rw [HST2'.out, ← HD.out]; rfl, by rw [HST.out]; exact HPS.out⟩
          case measure => simp [intOf]
    · obtain rfl : k = 8 := by omega
      generalize hsk : likeN v o s 8 = SL at *
      obtain ⟨S, like⟩ := SL
      have HSK := Lib.hid (show (likeN v o s 8).1 = S by rw [hsk])
      clear hsk
      simp only at hput hS hT
      obtain ⟨g3, cap3, hc0, hc1, hrow, hrow64, hbel, hor⟩ := hput
      have HOR := Lib.hid hor
      clear hor
      obtain ⟨hp0, hp1, hf0, hf1, hplt⟩ := two hc0
      obtain ⟨hq0, hq1, hg0, hg1, hqlt⟩ := two hc1
      have HRow := Lib.hid hrow
      have HRow64 := Lib.hid hrow64
      have HBel := Lib.hid hbel
      have HC1 := Lib.hid hc1
      clear hc0 hc1 hrow hrow64 hbel hS hT
      rw [show (7 - ((8 : Nat) : Int)) = -1 from by omega]
      go_wp2
      obtain ⟨c1, c2⟩ := laid HRow.out HC1.out (by decide) HBel.out (.slice (some ⟨g3, 0, none⟩) (S.e.turns + 4) cap3) (.int .u64 (S.e.size : Int))
      have c3 := laid64 HRow64.out HC1.out (by decide) (.slice (some ⟨g3, 0, none⟩) (S.e.turns + 4) cap3) (.int .u64 (S.e.size : Int))
      refine bodyPost_ret (v := .tuple #[.agg #[.slice (some ⟨g3, 0, none⟩) (S.e.turns + 4) cap3, .int .u64 (S.e.size : Int)], .slice (some ⟨g2, 0, none⟩) N cap2]) ?_ rfl ⟨_, _, by rw [HSK.out], by rw [HSK.out]; exact c1, by rw [HSK.out]; exact c3, c2, moved_of HOR.out, fun k hk => by simp [Value.ownBlock] at hk; omega⟩
      simp [results, Try.results17, go_sem, hq0, hq1]
end Go.Proofs.Ytjfoolhgjnnhgaa.Rc
