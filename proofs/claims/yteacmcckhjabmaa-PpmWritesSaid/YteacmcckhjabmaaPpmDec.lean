/-
  Package ppm: the contract of Decode.
-/
import Derived.Test.YteacmcckhjabmaaPpmGet
import Derived.Test.YteacmcckhjabmaaPpmEnc
set_option linter.unusedVariables false
set_option linter.unusedSimpArgs false
namespace Go.Proofs.Yteacmcckhjabmaa.Pp
open Go.RowKit
open Fq Cx
open Rc (Enc Dec EncAt DecAt Fine)
def strV (x : Option (List Nat)) : ByteArray := match x with
  | none => ⟨#[]⟩
  | some l => ⟨(l.map UInt8.ofNat).toArray⟩
def errV (x : Option (List Nat)) : Int := match x with
  | none => 6
  | some _ => 0
theorem getD_lt {d : Dec} {l : Tl} {N : Nat → Bool} (h : TOk l) : (getD d l N).2.1 < 256 := by
  unfold getD
  cases hs : signOf N (d.whereIn (allOf N l)) l 0 with
  | none => show 0 < 256; omega
  | some x =>
    obtain ⟨s, a, n⟩ := x
    exact (sign_bound N _ l 0 s a n h.1 hs).2.2.2
theorem getP_lt {r : Rw} (h : r.Ok) : ∀ (k : Nat) (N : Nat → Bool) (d : Dec), (getP r k N d).ok = true → ¬ cnt N 256 = 256 → (getP r k N d).s < 256
  | 0, N, d, _, hN => (other_spec (where_lt d (free_pos hN))).1
  | k + 1, N, d, ho, hN => by
    unfold getP at ho ⊢
    by_cases hb : (getD d (tabK r k) N).2.2 = true
    · rw [if_pos hb]
      exact getD_lt (tabK_ok h k)
    · rw [if_neg hb] at ho ⊢
      by_cases hc : cnt (ruleN N (tabK r k)) 256 = 256
      · rw [if_pos hc] at ho; cases ho
      · rw [if_neg hc] at ho ⊢
        exact getP_lt h k _ _ ho hc
theorem bytes_bv (l : List Nat) (h : ∀ s ∈ l, s < 256) : bv l = (l.map UInt8.ofNat).map Rc.byte := by
  unfold bv
  rw [List.map_map]
  apply List.map_congr_left
  intro x hx
  have := h x hx
  show Value.int .u8 (x : Int) = Value.int .u8 ((UInt8.ofNat x).toNat : Int)
  rw [UInt8.toNat_ofNat_of_lt' (by show x < 256; exact this)]
theorem convert_nil (w : World) : (convert 73 9 (.slice none 0 0)).run Try.prog w = .ok (.string ⟨#[]⟩) w := by kernel_rfl
set_option maxRecDepth 100000 in
theorem convert_held {w : World} {O : Paint} {c : Nat} {v : Value} {l : List Nat} (h : Held w O c 5 v (bv l)) (hl : ∀ s ∈ l, s < 256) (hv : l = [] → v = .slice none 0 0) : (convert 73 9 v).run Try.prog w = .ok (.string ⟨(l.map UInt8.ofNat).toArray⟩) w := by
  by_cases h0 : l = []
  · rw [hv h0, h0]
    exact convert_nil w
  · obtain ⟨g, cap, e, _⟩ := h.form (by rw [bv_len]; exact List.length_pos_iff.2 h0)
    rw [e] at h ⊢
    rw [bytes_bv l hl] at h ⊢
    exact h.text (by simp)
/-- What Decode hands back. -/
def DecTo (w : World) (s : ByteArray) (e : Int) (x : Ending) (w' : World) : Prop := x = .returned (.tuple #[.string s, .int .i64 e]) ∧ Below w.heap.size w w'
set_option maxRecDepth 100000 in
theorem dec_param (t : ByteArray) (o c n : Int) (w : World) (hn : n < 0 ∨ 16777216 < n) :
    Calls Try.prog 30 #[.string t, .int .i64 o, .int .i64 c, .int .i64 n] w (DecTo w ⟨#[]⟩ 1) := by
  have hb := Lib.hid (Below.refl w.heap.size w)
  by_cases h1 : n < 0
  · have h2 : decide (n < 0) = true := decide_eq_true h1
    go_enter Try.func30, Try.ntmps30
    go_wp2_with fail
    go_ret2
    exact ⟨rfl, hb.out⟩
  · have h2 : decide (n < 0) = false := decide_eq_false h1
    have h3 : 16777216 < n := by omega
    have h4 : decide (16777216 < n) = true := decide_eq_true h3
    go_enter Try.func30, Try.ntmps30
    go_wp2_with fail
    go_ret2
    exact ⟨rfl, hb.out⟩
theorem decP_bad_step {n : Nat} {r : Rw} {z : Dec} {l : List Nat} (h : (getP r r.pth.length noN z).ok = false ∨ (getP r r.pth.length noN z).d.bad = true) : decP (n + 1) r z l = none := by
  rw [decP, if_pos h]
theorem decP_step {n : Nat} {r : Rw} {z : Dec} {l : List Nat} (h1 : (getP r r.pth.length noN z).ok = true) (h2 : (getP r r.pth.length noN z).d.bad = false) : decP (n + 1) r z l = decP n (r.learn (getP r r.pth.length noN z).s (getP r r.pth.length noN z).k) (getP r r.pth.length noN z).d (l ++ [(getP r r.pth.length noN z).s]) := by
  rw [decP, if_neg (by rw [h1, h2]; simp)]
theorem cnt_noN : ¬ cnt noN 256 = 256 := by rw [show noN = Fq.noN from rfl, cnt_no]; omega
theorem infoB2 : (Try.prog.info? 5).map (fun i => (i.zero, i.size, i.bytes)) = some (some (.int .u8 0), 1, 1) := by kernel_rfl
theorem bv_snoc (l : List Nat) (s : Nat) : bv (l ++ [s]) = bv l ++ [.int .u8 (s : Int)] := by simp [bv]
set_option maxRecDepth 100000 in
set_option maxHeartbeats 4000000 in
theorem dec_in (t : ByteArray) (o c : Int) (N : Nat) (w : World) (ht : t.size ≤ 1000000000000) (hN : N ≤ 16777216) :
    Calls Try.prog 30 #[.string t, .int .i64 o, .int .i64 c, .int .i64 (N : Int)] w (DecTo w (strV (decV t.data.toList o c N)) (errV (decV t.data.toList o c N))) := by
  have g1 : decide ((N : Int) < 0) = false := by rw [decide_eq_false_iff_not]; omega
  have g2 : decide (16777216 < (N : Int)) = false := by rw [decide_eq_false_iff_not]; omega
  have g3 : ¬ (N : Int) < 0 := by omega
  have g4 : ¬ 16777216 < (N : Int) := by omega
  have HNW := Lib.hid (new_rw o c w (fun _ => 0) 10)
  have HV := Lib.hid (show decV t.data.toList o c N = endV (decP N (Rw.new o c) (Dec.read t.data.toList) []) from rfl)
  obtain ⟨i0, hi, hz0, hz1, hz2⟩ := info_parts infoB2
  go_enter Try.func30, Try.ntmps30
  go_wp2_with fail
  refine HNW.out.mono ?_
  rintro x w2 ⟨O2, d, m2, rfl, hs2, h2⟩
  have HS2 := Lib.hid (hs2.nil (cs := 30 :: 31 :: cols 10))
  have H2 := Lib.hid h2
  have HNE := Lib.hid (Rc.newdec t ht w2 O2 30)
  clear hs2 h2 HNW
  go_wp2_with fail
  refine HNE.out.mono ?_
  rintro x w3 ⟨rfl, O3, hs3, he3⟩
  have HS3 := Lib.hid (HS2.out.trans hs3.nil)
  have H3 := Lib.hid (H2.out.idle hs3)
  have HE3 := Lib.hid he3
  clear hs3 he3 HNE HS2 H2
  generalize w2.heap.size = ad at *
  generalize Dec.read t.data.toList = z0 at *
  generalize decV t.data.toList o c N = res at *
  go_wp2_with fail
  clear g1 g2 g3 g4
  go_loopw [28, 12] (fun i v wr => ∃ (j tot : Nat) (r : Rw) (z : Dec) (acc : List Nat) (O1 : Paint) (m1 : CM), j ≤ N ∧ i = .int .i64 (j : Int) ∧ decP N (Rw.new o c) z0 [] = decP (N - j) r z acc ∧ acc.length = j ∧ (∀ s ∈ acc, s < 256) ∧ (acc = [] → v = .slice none 0 0) ∧ Step (30 :: 31 :: cols 10) w (fun _ => 0) wr O1 ∧ RwAt wr O1 10 d m1 r ∧ DecAt wr O1 30 ad z tot ∧ Held wr O1 31 5 v (bv acc) ∧ r.rs ≤ j) (fun i _ _ => N - (intOf i).toNat)
  case atStart => exact ⟨0, 0, Rw.new o c, z0, [], O3, m2, Nat.zero_le _, rfl, rfl, rfl, (fun s hs => by cases hs), (fun _ => rfl), HS3.out, H3.out, HE3.out, held_nil _ _ _ _, Nat.le_refl _⟩
  case round =>
    obtain ⟨j, tot, r, z, acc, O1, m1, hj, rfl, hdp, hal, hac, hnil, hs1, h1, he1, hh1, hrs⟩ := hrel
    clear HS3 H3 HE3
    by_cases hlt : j < N
    · have e1 : (j : Int) < (N : Int) := by omega
      have HGT := Lib.hid (get_any h1 he1 (by simp [cols]))
      have hlt' := getP_lt h1.ok r.pth.length noN z
      have hNj : N - j = (N - (j + 1)) + 1 := by omega
      rw [hNj] at hdp
      have HB1 := Lib.hid (step_below (by simp [cols]) hs1)
      have HS1 := Lib.hid hs1
      have HH1 := Lib.hid hh1
      have H1 := Lib.hid h1
      have HNL := Lib.hid hnil
      have HAC := Lib.hid hac
      cases hok : (getP r r.pth.length noN z).ok with
      | false =>
        have hres : res = none := by rw [HV.out, hdp, decP_bad_step (.inl hok)]; rfl
        have HR := Lib.hid hres
        unfold GotTo at HGT
        rw [hok] at HGT
        clear hdp hal hac hnil hs1 h1 he1 hh1 hrs hlt' hok hres hNj
        generalize (getP r r.pth.length noN z).s = y at *
        generalize (getP r r.pth.length noN z).k = kk at *
        generalize (getP r r.pth.length noN z).d = zz at *
        go_wp2_with fail
        refine HGT.out.mono ?_
        rintro x w4 ⟨rfl, O4, t4, k1, k2⟩
        have HB4 := Lib.hid (step_below (by simp [cols]) (HS1.out.trans (k1.mono (by simp))))
        clear k1 k2
        go_wp2_with fail
        go_ret2
        exact ⟨by rw [HR.out]; rfl, HB4.out⟩
      | true =>
        have hy := hlt' hok cnt_noN
        cases hbd : (getP r r.pth.length noN z).d.bad with
        | true =>
          have hres : res = none := by rw [HV.out, hdp, decP_bad_step (.inr hbd)]; rfl
          have HR := Lib.hid hres
          unfold GotTo at HGT
          rw [hok] at HGT
          have HBD := Lib.hid hbd
          clear hdp hal hac hnil hs1 h1 he1 hh1 hrs hlt' hok hres hNj hbd hy
          generalize (getP r r.pth.length noN z).s = y at *
          generalize (getP r r.pth.length noN z).k = kk at *
          generalize (getP r r.pth.length noN z).d = zz at *
          go_wp2_with fail
          refine HGT.out.mono ?_
          rintro x w4 ⟨rfl, O4, t4, k1, k2⟩
          have HB4 := Lib.hid (step_below (by simp [cols]) (HS1.out.trans (k1.mono (by simp))))
          have HBA := Lib.hid (Rc.dec_bad k2)
          rw [HBD.out] at HBA
          clear k1 k2
          go_wp2_with fail
          refine HBA.out.mono ?_
          rintro x w5 ⟨rfl, rfl⟩
          go_wp2_with fail
          go_ret2
          exact ⟨by rw [HR.out]; rfl, HB4.out⟩
        | false =>
          have hnx := hdp.trans (decP_step hok hbd)
          have HNX := Lib.hid hnx
          unfold GotTo at HGT
          rw [hok] at HGT
          have HBD := Lib.hid hbd
          have hrs2 : (r.learn (getP r r.pth.length noN z).s (getP r r.pth.length noN z).k).rs ≤ j + 1 := by have := learn_rs r (getP r r.pth.length noN z).s (getP r r.pth.length noN z).k; omega
          have HRS := Lib.hid hrs2
          have HLN := Lib.hid (fun (W : World) (O4 : Paint) (k1 : Step [30] wr O1 W O4) => learn_any (h1.step k1 (by simp [cols])) hy (getP r r.pth.length noN z).k (by omega))
          have HSZ := Lib.hid (show (acc ++ [(getP r r.pth.length noN z).s]).length = j + 1 by rw [List.length_append, hal]; rfl)
          have HAC2 := Lib.hid (show ∀ s ∈ acc ++ [(getP r r.pth.length noN z).s], s < 256 from fun s hs => by
            rcases List.mem_append.1 hs with e | e
            · exact hac s e
            · simp at e; subst e; exact hy)
          have HAL := Lib.hid hal
          have hjn : j + 1 ≤ N := by omega
          clear hdp hal hac hnil hs1 h1 he1 hh1 hrs hlt' hok hNj hbd hy hnx hrs2
          generalize (getP r r.pth.length noN z).s = y at *
          generalize (getP r r.pth.length noN z).k = kk at *
          generalize (getP r r.pth.length noN z).d = zz at *
          go_wp2_with fail
          refine HGT.out.mono ?_
          rintro x w4 ⟨rfl, O4, t4, k1, k2⟩
          have HS4 := Lib.hid (HS1.out.trans (k1.mono (by simp)))
          have HBA := Lib.hid (Rc.dec_bad k2)
          rw [HBD.out] at HBA
          have HL4 := Lib.hid (HLN.out w4 O4 k1)
          have HK2 := Lib.hid k2
          have HH4 := Lib.hid (HH1.out.step k1 (by simp))
          clear k1 k2
          go_wp2_with fail
          refine HBA.out.mono ?_
          rintro x w5 ⟨rfl, rfl⟩
          go_wp2_with fail
          refine HL4.out.mono ?_
          rintro x w6 ⟨rfl, O6, m6, k3, k4⟩
          have HS6 := Lib.hid (HS4.out.trans (k3.mono (fun c hc => List.mem_cons_of_mem _ (List.mem_cons_of_mem _ hc))))
          have HH6 := Lib.hid (HH4.out.step k3 (by simp [cols]))
          have HD6 := Lib.hid (HK2.out.step k3 (by simp [cols]))
          have HK4 := Lib.hid k4
          clear k3 k4
          have HROW := Lib.hid HH6.out.row
          rw [bv_len, HAL.out] at HROW
          have hb1 : j + 1 ≤ maxLen := by unfold maxLen; omega
          have hb2 : (j + 1) * 1 ≤ 140737488355328 := by omega
          have HMO := Lib.hid (fun (W3 : World) (g cap : Nat) (o : Obj) (hr : W3.ownsRow 0 5 1 (.slice (some ⟨g, 0, none⟩) (j + 1) cap) (j + 1) (bv acc ++ [.int .u8 (y : Int)])) (hg : (w6.alloc o).grownBy W3 (Value.ownBlock _)) (hm : Moved (w6.alloc o) _ (.slice (some ⟨g, 0, none⟩) (j + 1) cap)) => Ar.held_more HH6.out (by rw [bv_len]; exact HAL.out) hr hg hm)
          go_wp2_with (at_builtin; refine wpList_append_one _ rfl _ _ 73 rfl 5 i0 (.int .u8 0) 1 1 Try.underlying73 hi hz0 hz1 hz2 rfl (by decide) _ _ _ rfl (HROW.out.alloc _) ⟨w6.heap.size, 0, none⟩ 1 [.int .u8 (y : Int)] rfl rfl (Ar.one_new _ _ _) (by intro u hu; simp at hu; subst hu; rfl) hb1 hb2 ?_; intro g cap w7 hown hgr hmv; obtain ⟨c6, c7⟩ := HMO.out w7 g cap _ hown hgr hmv; have HC6 := Lib.hid c6; have HC7 := Lib.hid c7; clear hown hgr hmv c6 c7)
          go_roundw
          case rel => exact ⟨j + 1, t4, _, zz, acc ++ [y], _, m6, hjn, by go_num, HNX.out, HSZ.out, HAC2.out, (fun h => by simp at h), HS6.out.trans (HC6.out.mono (by simp)), HK4.out.step HC6.out (by simp [cols]), HD6.out.step HC6.out (by simp), by rw [bv_snoc]; exact HC7.out, HRS.out⟩
          case measure => simp [intOf]; omega
    · obtain rfl : j = N := by omega
      have hres : res = endV (some (r, z, acc)) := by rw [HV.out, hdp, Nat.sub_self]; rfl
      have HDN := Lib.hid (Rc.dec_done he1)
      have HBA := Lib.hid (fun n => Rc.dec_bad (he1.step ((Step.refl [] wr O1).drewN n) (by simp)))
      have HB1 := Lib.hid (step_below (by simp [cols]) hs1)
      have HCV := Lib.hid (fun n => convert_held (hh1.step ((Step.refl [] wr O1).drewN n) (by simp)) hac hnil)
      cases hdn : z.done with
      | false =>
        have hr : res = none := by rw [hres]; unfold endV; dsimp only; rw [hdn]; simp
        have HR := Lib.hid hr
        rw [hdn] at HDN
        clear hdp hal hac hnil hs1 h1 he1 hh1 hrs hres hdn hr
        go_wp2_with fail
        refine HDN.out.mono ?_
        rintro x w4 ⟨rfl, n, rfl⟩
        have HB4 := Lib.hid (HB1.out.trans (Cx.below_drewN wr n))
        go_wp2_with fail
        go_ret2
        exact ⟨by rw [HR.out]; rfl, HB4.out⟩
      | true =>
        rw [hdn] at HDN
        cases hbd : z.bad with
        | true =>
          have hr : res = none := by rw [hres]; unfold endV; dsimp only; rw [hbd]; simp
          have HR := Lib.hid hr
          rw [hbd] at HBA
          clear hdp hal hac hnil hs1 h1 he1 hh1 hrs hres hdn hr hbd
          go_wp2_with fail
          refine HDN.out.mono ?_
          rintro x w4 ⟨rfl, n, rfl⟩
          have HB4 := Lib.hid (HB1.out.trans (Cx.below_drewN wr n))
          go_wp2_with fail
          refine (HBA.out n).mono ?_
          rintro x w5 ⟨rfl, rfl⟩
          go_wp2_with fail
          go_ret2
          exact ⟨by rw [HR.out]; rfl, HB4.out⟩
        | false =>
          have hr : res = some acc := by rw [hres]; unfold endV; dsimp only; rw [hbd, hdn]; simp
          have HR := Lib.hid hr
          rw [hbd] at HBA
          clear hdp hal hac hnil hs1 h1 he1 hh1 hrs hres hdn hr hbd
          go_wp2_with fail
          refine HDN.out.mono ?_
          rintro x w4 ⟨rfl, n, rfl⟩
          have HB4 := Lib.hid (HB1.out.trans (Cx.below_drewN wr n))
          have hcv := HCV.out n
          go_wp2_with fail
          refine (HBA.out n).mono ?_
          rintro x w5 ⟨rfl, rfl⟩
          go_wp2_with fail
          go_ret2
          exact ⟨by rw [HR.out]; rfl, HB4.out⟩
end Go.Proofs.Yteacmcckhjabmaa.Pp
