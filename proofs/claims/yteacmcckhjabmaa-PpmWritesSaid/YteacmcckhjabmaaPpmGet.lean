/-
  Package ppm: the contract of get.
-/
import Derived.Test.YteacmcckhjabmaaPpmPut
set_option linter.unusedVariables false
set_option linter.unusedSimpArgs false
namespace Go.Proofs.Yteacmcckhjabmaa.Pp
open Go.RowKit
open Fq Cx
open Rc (Enc Dec EncAt DecAt Fine)
/-- What get leaves. -/
def GotTo (w : World) (O : Paint) (cd ad : Nat) (g : Got) (x : Ending) (w' : World) : Prop := x = .returned (.tuple #[.int .u8 (g.s : Int), .int .i64 g.k, .bool g.ok]) ∧ ∃ O' tot, Step [cd] w O w' O' ∧ DecAt w' O' cd ad g.d tot
theorem getP_found {r : Rw} {k : Nat} {N : Nat → Bool} {d : Dec} (h : (getD d (tabK r k) N).2.2 = true) : getP r (k + 1) N d = ⟨(getD d (tabK r k) N).1, (getD d (tabK r k) N).2.1, (k : Int), true⟩ := by
  rw [getP, if_pos h]
theorem getP_full {r : Rw} {k : Nat} {N : Nat → Bool} {d : Dec} (h : (getD d (tabK r k) N).2.2 = false) (hc : cnt (ruleN N (tabK r k)) 256 = 256) : getP r (k + 1) N d = ⟨(getD d (tabK r k) N).1, 0, 0, false⟩ := by
  rw [getP, if_neg (by rw [h]; simp), if_pos hc]
theorem getP_next {r : Rw} {k : Nat} {N : Nat → Bool} {d : Dec} (h : (getD d (tabK r k) N).2.2 = false) (hc : ¬ cnt (ruleN N (tabK r k)) 256 = 256) : getP r (k + 1) N d = getP r k (ruleN N (tabK r k)) (getD d (tabK r k) N).1 := by
  rw [getP, if_neg (by rw [h]; simp), if_neg hc]
set_option maxRecDepth 100000 in
set_option maxHeartbeats 4000000 in
theorem get_any {w : World} {O : Paint} {b d cd ad tot : Nat} {m : CM} {r : Rw} {z : Dec} (h : RwAt w O b d m r) (he : DecAt w O cd ad z tot) (hce : cd ∉ cols b) :
    Calls Try.prog 62 #[.pointer (some ⟨d, 0, none⟩), .pointer (some ⟨ad, 0, none⟩)] w fun x w' => GotTo w O cd ad (getP r r.pth.length noN z) x w' := by
  obtain ⟨cn, hcn, hcO⟩ := fresh_over O w.heap.size (b + 9 + cd)
  have hs1 : Step [] w O (w.alloc (.cells Try.zeroCells124 124)) (Step.paint O w cn) := ((Step.refl [] w O).alloc _).repaint cn
  have hset : SetAt (w.alloc (.cells Try.zeroCells124 124)) (Step.paint O w cn) cn w.heap.size noN := ⟨_, ⟨heap_alloc_new _ _, Step.paint_new (Nat.le_refl _)⟩, zeroS⟩
  have h1 := h.idle hs1
  have HE1 := Lib.hid (he.step hs1 (by simp))
  have H1 := Lib.hid h1
  have HSE := Lib.hid hset
  have HS1 := Lib.hid hs1
  have HCO := Lib.hid hcO
  have hncol : ∀ c, c ∈ cols b → c ∉ [cn, cd] := by
    intro c hc hc2
    simp only [List.mem_cons, List.not_mem_nil, or_false] at hc2
    rcases hc2 with e1 | e1
    · subst e1
      simp [cols] at hc
      omega
    · subst e1; exact hce hc
  have HNC := Lib.hid hncol
  have hb8 : b + 8 ≠ cd := fun e => hce (by rw [← e]; simp [cols])
  have hp17 := h.ok.short.1
  have HOK := Lib.hid h.ok
  have HLG := Lib.hid (longest_rw h1)
  have HC0 := Lib.hid (show ¬ cnt noN 256 = 256 by rw [show noN = Fq.noN from rfl, cnt_no]; omega)
  clear h he hs1 hset h1 hcO hncol
  go_enter Try.func62, Try.ntmps62
  go_wp2_with fail
  generalize w.alloc (.cells Try.zeroCells124 124) = w1 at *
  refine HLG.out.mono ?_
  rintro x w2 ⟨rfl, rfl⟩
  go_wp2_with fail
  generalize hO1 : Step.paint O w cn = O1 at *
  clear hO1 HLG
  generalize w.heap.size = bn at HSE ⊢
  have HEND : Hid (∀ (g : Got) (wr : World) (O2 : Paint) (tot : Nat), Step [cn, cd] w1 O1 wr O2 → DecAt wr O2 cd ad g.d tot → GotTo w O cd ad g (.returned (.tuple #[.int .u8 (g.s : Int), .int .i64 g.k, .bool g.ok])) wr) := Lib.hid (fun p wr O2 tot h2 h3 =>
    ⟨rfl, O2, tot, step_drop (HS1.out.nil.trans h2) HCO.out, h3⟩)
  go_loopw [8] (fun i wr => ∃ (j : Nat) (N : Nat → Bool) (z' : Dec) (O2 : Paint) (tot : Nat), j ≤ r.pth.length ∧ i = .int .i64 ((j : Int) - 1) ∧ getP r r.pth.length noN z = getP r j N z' ∧ ¬ cnt N 256 = 256 ∧ Step [cn, cd] w1 O1 wr O2 ∧ SetAt wr O2 cn bn N ∧ DecAt wr O2 cd ad z' tot) (fun i _ => (intOf i + 1).toNat)
  case atStart => exact ⟨r.pth.length, noN, z, O1, tot, Nat.le_refl _, rfl, rfl, HC0.out, Step.refl _ _ _, HSE.out, HE1.out⟩
  case round =>
    obtain ⟨j, N, z', O2, tot2, hj, rfl, hpp, hNs, hs2, hse, hen⟩ := hrel
    have H2 := Lib.hid (H1.out.step hs2 HNC.out)
    have HS2 := Lib.hid hs2
    have HSE2 := Lib.hid hse
    have HEN := Lib.hid hen
    cases j with
    | zero =>
      as_aux_lemma =>
      have e1 : (((0 : Nat) : Int) - 1) = -1 := rfl
      rw [e1]
      obtain ⟨o1, o2, o3⟩ := other_spec (where_lt z' (free_pos hNs))
      have HPO := Lib.hid (get_other hse hen (by omega) (otherOf N (z'.whereIn (free N 256))) o1 o2 o3.symm)
      have HF := Lib.hid (fun (W : World) (tt : Nat) (k1 : Step [cd] wr O2 W O2) (k2 : DecAt W O2 cd ad (z'.take (free N (otherOf N (z'.whereIn (free N 256)))) 1 (free N 256)) tt) => show GotTo w O cd ad (getP r r.pth.length noN z) (.returned (.tuple #[.int .u8 ((otherOf N (z'.whereIn (free N 256)) : Nat) : Int), .int .i64 (-1), .bool true])) W from by
        rw [hpp]
        exact HEND.out ⟨_, otherOf N (z'.whereIn (free N 256)), -1, true⟩ W O2 tt (hs2.trans (k1.mono (by simp))) k2)
      clear hpp hNs hs2 hse hen o1 o2 o3 HEND
      generalize otherOf N (z'.whereIn (free N 256)) = y at *
      go_wp2_with fail
      refine HPO.out.mono ?_
      rintro x w3 ⟨rfl, k1, k2⟩
      have HF3 := Lib.hid (HF.out w3 _ k1 k2)
      clear k1 k2
      go_wp2_with fail
      first | go_ret3 | skip
      exact HF3.out
    | succ k =>
      as_aux_lemma =>
      have e1 : (((k + 1 : Nat) : Int) - 1) = (k : Int) := by omega
      rw [e1]
      have g1 : (0 : Int) ≤ (k : Int) := by omega
      obtain ⟨i, l, q1, q2⟩ := HOK.out.at (k := k) (by omega)
      have hok := (HOK.out.tab i l q2).2.2
      have htk := tabK_at q1 q2
      have HT := Lib.hid (table_rw H2.out q1 q2)
      have hti := H2.out.tabs.tab i l q2
      have hlen := tok_len hok
      have HPT := Lib.hid (fun n => Fq.get_any (hti.step ((Step.refl [] wr O2).drewN n) (by simp)) hok.1 (by omega) (hse.step ((Step.refl [] wr O2).drewN n) (by simp)).not (all_tok hok N) (hen.step ((Step.refl [] wr O2).drewN n) (by simp)) hb8 (fun W k1 => ((hse.step ((Step.refl [] wr O2).drewN n) (by simp)).step k1 (by simp; omega)).not))
      have HTB := Lib.hid (fun n (W : World) (k1 : Step [cd] (wr.drewN n) O2 W O2) => rule_any ((H2.out.step (((Step.refl [cd] wr O2).drewN n).trans k1) (fun c hc hc2 => HNC.out c hc (by simp at hc2 ⊢; exact .inr hc2))).tabs.tab i l q2) hok (hse.step (((Step.refl [cd] wr O2).drewN n).trans k1) (by simp; omega)))
      have hk16 : k ≤ 16 := by omega
      have HK := Lib.hid hk16
      have hjk : k ≤ r.pth.length := by omega
      have hcc : cd ≠ cn := by omega
      have HRW := Lib.hid (fun n (W W2 : World) (O4 : Paint) (k1 : Step [cd] (wr.drewN n) O2 W O2) (k3 : Step [cn] W O2 W2 O4) => show Step [cn, cd] w1 O1 W2 O4 from hs2.trans (((((Step.refl [cd] wr O2).drewN n).trans k1).mono (by simp)).trans (k3.mono (by simp))))
      cases hb : (getD z' l N).2.2 with
      | true =>
        have hq := getP_found (r := r) (k := k) (N := N) (d := z') (by rw [htk]; exact hb)
        rw [htk] at hq
        unfold GotBy at HPT
        rw [hb] at HPT
        have HF := Lib.hid (fun n (W : World) (k1 : Step [cd] (wr.drewN n) O2 W O2) (k2 : DecAt W O2 cd ad (getD z' l N).1 (allOf N l)) => show GotTo w O cd ad (getP r r.pth.length noN z) (.returned (.tuple #[.int .u8 ((getD z' l N).2.1 : Int), .int .i64 (k : Int), .bool true])) W from by
          rw [hpp, hq]
          exact HEND.out ⟨(getD z' l N).1, (getD z' l N).2.1, (k : Int), true⟩ W O2 _ (hs2.trans ((((Step.refl [cd] wr O2).drewN n).trans k1).mono (by simp))) k2)
        clear hpp hNs hs2 hse hen q1 q2 hok htk hti hlen hb hq HTB HRW HEND
        generalize (getD z' l N).2.1 = y at *
        go_wp2_with fail
        refine HT.out.mono ?_
        rintro x w3 ⟨rfl, n, rfl⟩
        go_wp2_with fail
        refine (HPT.out n).mono ?_
        rintro x w4 ⟨rfl, k1, k2⟩
        have HF3 := Lib.hid (HF.out n w4 k1 k2)
        clear k1 k2
        go_wp2_with fail
        first | go_ret3 | skip
        exact HF3.out
      | false =>
        unfold GotBy at HPT
        rw [hb] at HPT
        by_cases hc : cnt (ruleN N l) 256 = 256
        · have hq := getP_full (r := r) (k := k) (N := N) (d := z') (by rw [htk]; exact hb) (by rw [htk]; exact hc)
          rw [htk] at hq
          have HF := Lib.hid (fun n (W W2 : World) (O4 : Paint) (k1 : Step [cd] (wr.drewN n) O2 W O2) (k2 : DecAt W O2 cd ad (getD z' l N).1 (allOf N l)) (k3 : Step [cn] W O2 W2 O4) => show GotTo w O cd ad (getP r r.pth.length noN z) (.returned (.tuple #[.int .u8 0, .int .i64 0, .bool false])) W2 from by
            rw [hpp, hq]
            exact HEND.out ⟨(getD z' l N).1, 0, 0, false⟩ W2 O4 _ (HRW.out n W W2 O4 k1 k3) (k2.step k3 (by simp; exact hcc)))
          have HSL := Lib.hid (fun (W : World) (O4 : Paint) (k4 : SetAt W O4 cn bn (ruleN N l)) => set_len k4)
          rw [hc] at HSL
          clear hpp hNs hs2 hse hen q1 q2 hok htk hti hlen hb hq HEND HRW hc
          generalize (getD z' l N).2.1 = y at *
          go_wp2_with fail
          refine HT.out.mono ?_
          rintro x w3 ⟨rfl, n, rfl⟩
          go_wp2_with fail
          refine (HPT.out n).mono ?_
          rintro x w4 ⟨rfl, k1, k2⟩
          have HK1 := Lib.hid k1
          have HK2 := Lib.hid k2
          clear k1 k2
          go_wp2_with fail
          refine (HTB.out n w4 HK1.out).mono ?_
          rintro x w5 ⟨rfl, O5, k3, k4⟩
          have HF3 := Lib.hid (HF.out n w4 w5 O5 HK1.out HK2.out k3)
          have HL5 := Lib.hid (HSL.out w5 O5 k4)
          clear k3 k4
          go_wp2_with fail
          refine HL5.out.mono ?_
          rintro x w6 ⟨rfl, rfl⟩
          go_wp2_with fail
          first | go_ret3 | skip
          exact HF3.out
        · have hq := getP_next (r := r) (k := k) (N := N) (d := z') (by rw [htk]; exact hb) (by rw [htk]; exact hc)
          rw [htk] at hq
          have HQ := Lib.hid (hpp.trans hq)
          have HSL := Lib.hid (fun (W : World) (O4 : Paint) (k4 : SetAt W O4 cn bn (ruleN N l)) => set_len k4)
          have HCN := Lib.hid hc
          have hce2 : (((cnt (ruleN N l) 256 : Nat) : Int) == 256) = false := by simp; omega
          have hce3 : ¬ ((cnt (ruleN N l) 256 : Nat) : Int) = 256 := by omega
          have hce4 : decide (((cnt (ruleN N l) 256 : Nat) : Int) = 256) = false := decide_eq_false hce3
          generalize ((cnt (ruleN N l) 256 : Nat) : Int) = CC at *
          clear hpp hNs hs2 hse hen q1 q2 hok htk hti hlen hb hq HEND hc
          generalize (getD z' l N).2.1 = y at *
          go_wp2_with fail
          refine HT.out.mono ?_
          rintro x w3 ⟨rfl, n, rfl⟩
          go_wp2_with fail
          refine (HPT.out n).mono ?_
          rintro x w4 ⟨rfl, k1, k2⟩
          have HK1 := Lib.hid k1
          have HK2 := Lib.hid k2
          clear k1 k2
          go_wp2_with fail
          refine (HTB.out n w4 HK1.out).mono ?_
          rintro x w5 ⟨rfl, O5, k3, k4⟩
          have HK3 := Lib.hid k3
          have HK4 := Lib.hid k4
          have HL5 := Lib.hid (HSL.out w5 O5 k4)
          clear k3 k4
          go_wp2_with fail
          refine HL5.out.mono ?_
          rintro x w6 ⟨rfl, rfl⟩
          go_wp2_with fail
          go_roundw
          case rel => exact ⟨k, ruleN N l, _, O5, _, hjk, by rfl, HQ.out, HCN.out, HRW.out n w4 w5 O5 HK1.out HK3.out, HK4.out, HK2.out.step HK3.out (by simp; exact hcc)⟩
          case measure => simp [intOf]
end Go.Proofs.Yteacmcckhjabmaa.Pp
