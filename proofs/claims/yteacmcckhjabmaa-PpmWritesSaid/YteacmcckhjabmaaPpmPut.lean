/-
  Package ppm: the contracts of ruleOut and put.
-/
import Derived.Test.YteacmcckhjabmaaPpmRuns
import Derived.Test.YteacmcckhjabmaaFreqSets
import Derived.Test.YteacmcckhjabmaaFreqSigns
set_option linter.unusedVariables false
set_option linter.unusedSimpArgs false
namespace Go.Proofs.Yteacmcckhjabmaa.Pp
open Go.RowKit
open Fq Cx
open Rc (Enc Dec EncAt DecAt Fine)
theorem step_drop {cs : List Nat} {f : Nat} {w w' : World} {O O' : Paint} (h : Step (f :: cs) w O w' O') (hn : ∀ k, k < w.heap.size → O k ≠ f) : Step cs w O w' O' :=
  ⟨h.frame.mono (fun k hk ho => by
    rcases List.mem_cons.1 ho with e | e
    · exact absurd e (hn k hk)
    · exact e), h.ext⟩
/-- A colour above B that no block has. -/
theorem fresh_over (O : Paint) (n B : Nat) : ∃ f, B < f ∧ ∀ k, k < n → O k ≠ f := by
  have : ∃ m, ∀ k, k < n → O k < m := by
    induction n with
    | zero => exact ⟨0, fun k h => by omega⟩
    | succ n ih =>
      obtain ⟨m, hm⟩ := ih
      refine ⟨m + O n + 1, fun k hk => ?_⟩
      by_cases e : k = n
      · subst e; omega
      · have := hm k (by omega); omega
  obtain ⟨m, hm⟩ := this
  exact ⟨m + B + 1, by omega, fun k hk => by have := hm k hk; omega⟩
theorem rule_take (N : Nat → Bool) (l : Tl) {k : Nat} (hk : k < l.length) : addN (ruleN N (l.take k)) (at' l k).1 = ruleN N (l.take (k + 1)) := by
  funext s
  unfold addN ruleN
  rw [take_next l k hk]
  simp only [List.map_append, List.map_cons, List.map_nil, List.mem_append, List.mem_singleton]
  by_cases e : s = (at' l k).1
  · simp [e]
  · simp [e]
theorem rule_zero (N : Nat → Bool) (l : Tl) : ruleN N (l.take 0) = N := by
  funext s
  unfold ruleN
  simp
set_option maxRecDepth 100000 in
set_option maxHeartbeats 1000000 in
theorem rule_any {w : World} {O : Paint} {ct a cn bn : Nat} {v : Value} {l : Tl} {N : Nat → Bool} (hT : TabAt w O ct a v l) (hl : TOk l) (hS : SetAt w O cn bn N) :
    Calls Try.prog 76 #[.pointer (some ⟨bn, 0, none⟩), .pointer (some ⟨a, 0, none⟩)] w fun x w' => x = .returned (.tuple #[]) ∧ ∃ O', Step [cn] w O w' O' ∧ SetAt w' O' cn bn (ruleN N l) := by
  have hlen := tok_len hl
  have HSG := Lib.hid (signs_any hT (fun x hx => by have := hl.1 x hx; omega) (by omega) (cn + 1) (cn + 1))
  have HS := Lib.hid hS
  have HT := Lib.hid hl.1
  clear hT hl hS
  go_enter Try.func76, Try.ntmps76
  go_wp2_with fail
  refine HSG.out.mono ?_
  rintro x w1 ⟨v1, v2, rfl, g1, g2, O1, rfl, rfl, hsg⟩
  have HS1 := Lib.hid (hsg.step.nil (cs := [cn]))
  have HSE := Lib.hid (HS.out.step hsg.step (by simp))
  have HX := Lib.hid hsg.all.1
  clear hsg HSG
  go_wp2_with fail
  go_loopw [15] (fun i wr => ∃ (k : Nat) (O2 : Paint), k ≤ l.length ∧ i = .int .i64 (k : Int) ∧ Step [cn] w1 O1 wr O2 ∧ SetAt wr O2 cn bn (ruleN N (l.take k))) (fun i _ => l.length - (intOf i).toNat)
  case atStart => exact ⟨0, O1, Nat.zero_le _, rfl, Step.refl _ _ _, by rw [rule_zero]; exact HSE.out⟩
  case round =>
    obtain ⟨k, O2, hk, rfl, hs2, hse⟩ := hrel
    by_cases hlt : k < l.length
    · have hta := tab_at HT.out hlt
      have c1 := (HX.out.step hs2 (by simp)).cell (j := k) (x := .int .u8 ((at' l k).1 : Int)) (by simp [u8s, at', List.getD, hlt])
      have HAD := Lib.hid (set_add hse (at' l k).1 hta.1)
      rw [rule_take N l hlt] at HAD
      have HS2 := Lib.hid hs2
      have e1 : (k : Int) < (l.length : Int) := by omega
      generalize (at' l k).1 = y at *
      clear hse hs2 hta
      go_wp2_with fail
      refine HAD.out.mono ?_
      rintro x w3 ⟨rfl, hs3, hse3⟩
      have HF := Lib.hid (And.intro (HS2.out.trans hs3) hse3)
      clear hs3 hse3
      go_wp2_with fail
      go_roundw
      case rel => exact ⟨k + 1, O2, by omega, by go_num, HF.out.1, HF.out.2⟩
      case measure => simp [intOf]; omega
    · obtain rfl : k = l.length := by omega
      rw [List.take_of_length_le (Nat.le_refl _)] at hse
      have HF := Lib.hid (And.intro (HS1.out.trans hs2) hse)
      clear hs2 hse
      go_wp2_with fail
      first | go_end0 | (simp only [Exit.inBlock, Exit.then]; refine bodyPost_ret (results_none rfl _ _ _) rfl ?_) | refine bodyPost_ret (results_none rfl _ _ _) rfl ?_
      exact ⟨rfl, O2, HF.out.1, HF.out.2⟩
/-- What put leaves. -/
def PutTo (w : World) (O : Paint) (ce ae : Nat) (p : Enc × Int) (x : Ending) (w' : World) : Prop := x = .returned (.int .i64 p.2) ∧ ∃ O', Step [ce] w O w' O' ∧ EncAt w' O' ce ae p.1
theorem putP_found {r : Rw} {s k : Nat} {N : Nat → Bool} {e : Enc} (h : (putE e (tabK r k) N s).2 = true) : putP r s (k + 1) N e = ((putE e (tabK r k) N s).1, (k : Int)) := by
  rw [putP, if_pos h]
theorem putP_next {r : Rw} {s k : Nat} {N : Nat → Bool} {e : Enc} (h : (putE e (tabK r k) N s).2 = false) : putP r s (k + 1) N e = putP r s k (ruleN N (tabK r k)) (putE e (tabK r k) N s).1 := by
  rw [putP, if_neg (by rw [h]; simp)]
set_option maxRecDepth 100000 in
set_option maxHeartbeats 4000000 in
theorem put_any {w : World} {O : Paint} {b d ce ae s : Nat} {m : CM} {r : Rw} {e : Enc} (h : RwAt w O b d m r) (he : EncAt w O ce ae e) (hce : ce ∉ cols b) (hte : e.turns ≤ 900000) (hs : s < 256) :
    Calls Try.prog 34 #[.pointer (some ⟨d, 0, none⟩), .pointer (some ⟨ae, 0, none⟩), .int .u8 (s : Int)] w fun x w' => PutTo w O ce ae (putP r s r.pth.length noN e) x w' := by
  obtain ⟨cn, hcn, hcO⟩ := fresh_over O w.heap.size (b + 9 + ce)
  have hs1 : Step [] w O (w.alloc (.cells Try.zeroCells124 124)) (Step.paint O w cn) := ((Step.refl [] w O).alloc _).repaint cn
  have hset : SetAt (w.alloc (.cells Try.zeroCells124 124)) (Step.paint O w cn) cn w.heap.size noN := ⟨_, ⟨heap_alloc_new _ _, Step.paint_new (Nat.le_refl _)⟩, zeroS⟩
  have h1 := h.idle hs1
  have HE1 := Lib.hid (he.step hs1 (by simp))
  have H1 := Lib.hid h1
  have HSE := Lib.hid hset
  have HS1 := Lib.hid hs1
  have HCO := Lib.hid hcO
  have hncol : ∀ c, c ∈ cols b → c ∉ [cn, ce] := by
    intro c hc hc2
    simp only [List.mem_cons, List.not_mem_nil, or_false] at hc2
    rcases hc2 with e1 | e1
    · subst e1
      simp [cols] at hc
      omega
    · subst e1; exact hce hc
  have HNC := Lib.hid hncol
  have hp17 := h.ok.short.1
  have HOK := Lib.hid h.ok
  have HLG := Lib.hid (longest_rw h1)
  clear h he hs1 hset h1 hcO hncol
  go_enter Try.func34, Try.ntmps34
  go_wp2_with fail
  generalize w.alloc (.cells Try.zeroCells124 124) = w1 at *
  refine HLG.out.mono ?_
  rintro x w2 ⟨rfl, rfl⟩
  go_wp2_with fail
  generalize hO1 : Step.paint O w cn = O1 at *
  clear hO1 HLG
  generalize w.heap.size = bn at HSE ⊢
  have HEND : Hid (∀ (p : Enc × Int) (wr : World) (O2 : Paint), Step [cn, ce] w1 O1 wr O2 → EncAt wr O2 ce ae p.1 → PutTo w O ce ae p (.returned (.int .i64 p.2)) wr) := Lib.hid (fun p wr O2 h2 h3 =>
    ⟨rfl, O2, step_drop (HS1.out.nil.trans h2) HCO.out, h3⟩)
  go_loopw [8] (fun i wr => ∃ (j : Nat) (N : Nat → Bool) (e' : Enc) (O2 : Paint), j ≤ r.pth.length ∧ i = .int .i64 ((j : Int) - 1) ∧ putP r s r.pth.length noN e = putP r s j N e' ∧ N s = false ∧ e'.turns ≤ e.turns + 3 * (r.pth.length - j) ∧ Step [cn, ce] w1 O1 wr O2 ∧ SetAt wr O2 cn bn N ∧ EncAt wr O2 ce ae e') (fun i _ => (intOf i + 1).toNat)
  case atStart => exact ⟨r.pth.length, noN, e, O1, Nat.le_refl _, rfl, rfl, rfl, by omega, Step.refl _ _ _, HSE.out, HE1.out⟩
  case round =>
    obtain ⟨j, N, e', O2, hj, rfl, hpp, hNs, ht, hs2, hse, hen⟩ := hrel
    have H2 := Lib.hid (H1.out.step hs2 HNC.out)
    have HS2 := Lib.hid hs2
    have HSE2 := Lib.hid hse
    have HPP := Lib.hid hpp
    have HNS := Lib.hid hNs
    have HEN := Lib.hid hen
    cases j with
    | zero =>
      as_aux_lemma =>
      have e1 : (((0 : Nat) : Int) - 1) = -1 := rfl
      rw [e1]
      have HPO := Lib.hid (put_other hse hen (by omega) s hs hNs)
      have HF := Lib.hid (fun (W : World) (O3 : Paint) (k1 : Step [ce] wr O2 W O3) (k2 : EncAt W O3 ce ae (e'.part (free N s) 1 (free N 256))) => show PutTo w O ce ae (putP r s r.pth.length noN e) (.returned (.int .i64 (-1))) W from by
        rw [hpp]
        exact HEND.out (_, -1) W O3 (hs2.trans (k1.mono (by simp))) k2)
      clear hpp hNs ht hs2 hse hen
      go_wp2_with fail
      refine HPO.out.mono ?_
      rintro x w3 ⟨rfl, O3, k1, k2⟩
      have HF3 := Lib.hid (HF.out w3 O3 k1 k2)
      clear k1 k2
      go_wp2_with fail
      go_ret
      exact HF3.out
    | succ k =>
      as_aux_lemma =>
      have e1 : (((k + 1 : Nat) : Int) - 1) = (k : Int) := by omega
      rw [e1]
      have g1 : (0 : Int) ≤ (k : Int) := by omega
      obtain ⟨i, l, q1, q2⟩ := HOK.out.at (k := k) (by omega)
      have hok := (HOK.out.tab i l q2).2.2
      have htk := tabK_at q1 q2
      have HT := Lib.hid (table_rw H2.out q1 q2)
      have hti := H2.out.tabs.tab i l q2
      have hlen := tok_len hok
      have HPT := Lib.hid (fun n => Fq.put_any (hti.step ((Step.refl [] wr O2).drewN n) (by simp)) hok.1 (by omega) (hse.step ((Step.refl [] wr O2).drewN n) (by simp)).not (all_tok hok N) (hen.step ((Step.refl [] wr O2).drewN n) (by simp)) (by omega) s hs)
      have HTB := Lib.hid (fun n (W : World) (O3 : Paint) (k1 : Step [ce] (wr.drewN n) O2 W O3) => rule_any ((H2.out.step (((Step.refl [ce] wr O2).drewN n).trans k1) (fun c hc hc2 => HNC.out c hc (by simp at hc2 ⊢; exact .inr hc2))).tabs.tab i l q2) hok (hse.step (((Step.refl [ce] wr O2).drewN n).trans k1) (by simp; omega)))
      have hk16 : k ≤ 16 := by omega
      have HK := Lib.hid hk16
      have hjk : k ≤ r.pth.length := by omega
      cases hb : (putE e' l N s).2 with
      | true =>
        have hq := putP_found (r := r) (k := k) (N := N) (e := e') (s := s) (by rw [htk]; exact hb)
        rw [htk] at hq
        rw [hb] at HPT
        have HF := Lib.hid (fun n (W : World) (O3 : Paint) (k1 : Step [ce] (wr.drewN n) O2 W O3) (k2 : EncAt W O3 ce ae (putE e' l N s).1) => show PutTo w O ce ae (putP r s r.pth.length noN e) (.returned (.int .i64 (k : Int))) W from by
          rw [hpp, hq]
          exact HEND.out (_, (k : Int)) W O3 (hs2.trans ((((Step.refl [ce] wr O2).drewN n).trans k1).mono (by simp))) k2)
        clear hpp hNs ht hs2 hse hen q1 q2 hok htk hti hlen hb hq HTB
        go_wp2_with fail
        refine HT.out.mono ?_
        rintro x w3 ⟨rfl, n, rfl⟩
        go_wp2_with fail
        refine (HPT.out n).mono ?_
        rintro x w4 ⟨rfl, O4, k1, k2⟩
        have HF3 := Lib.hid (HF.out n w4 O4 k1 k2)
        clear k1 k2
        go_wp2_with fail
        go_ret
        exact HF3.out
      | false =>
        have hq := putP_next (r := r) (k := k) (N := N) (e := e') (s := s) (by rw [htk]; exact hb)
        rw [htk] at hq
        rw [hb] at HPT
        have HQ := Lib.hid (hpp.trans hq)
        have HNR := Lib.hid (rule_not (l := l) (e := e') hNs hb)
        have HTN := Lib.hid (show (putE e' l N s).1.turns ≤ e.turns + 3 * (r.pth.length - k) by
          obtain ⟨a, n, c, he, _⟩ := putE_part hok e' N s
          have := Rc.part_turns e' a n c
          rw [he]
          omega)
        have HRW := Lib.hid (fun n (W W2 : World) (O3 O4 : Paint) (k1 : Step [ce] (wr.drewN n) O2 W O3) (k3 : Step [cn] W O3 W2 O4) => show Step [cn, ce] w1 O1 W2 O4 from hs2.trans (((((Step.refl [ce] wr O2).drewN n).trans k1).mono (by simp)).trans (k3.mono (by simp))))
        have hcc : ce ≠ cn := by omega
        clear hpp hNs ht hs2 hse hen q1 q2 hok htk hti hlen hb hq HEND
        go_wp2_with fail
        refine HT.out.mono ?_
        rintro x w3 ⟨rfl, n, rfl⟩
        go_wp2_with fail
        refine (HPT.out n).mono ?_
        rintro x w4 ⟨rfl, O4, k1, k2⟩
        have HK1 := Lib.hid k1
        have HK2 := Lib.hid k2
        clear k1 k2
        go_wp2_with fail
        refine (HTB.out n w4 O4 HK1.out).mono ?_
        rintro x w5 ⟨rfl, O5, k3, k4⟩
        have HK3 := Lib.hid k3
        have HK4 := Lib.hid k4
        clear k3 k4
        go_wp2_with fail
        go_roundw
        case rel => exact ⟨k, ruleN N l, _, O5, hjk, by rfl, HQ.out, HNR.out, HTN.out, HRW.out n w4 w5 O4 O5 HK1.out HK3.out, HK4.out, HK2.out.step HK3.out (by simp; exact hcc)⟩
        case measure => simp [intOf]
end Go.Proofs.Yteacmcckhjabmaa.Pp
