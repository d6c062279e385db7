/-
  Package context: the contract of findTables.
-/
import Derived.Test.YteacmcckhjabmaaCtxGrow
set_option linter.unusedVariables false
set_option linter.unusedSimpArgs false
namespace Go.Proofs.Yteacmcckhjabmaa.Cx
open Go.RowKit
open Rc Ar Fq
def Rw.setP (r : Rw) (p : List Nat) : Rw := ⟨r.order, r.cells, r.used, r.rs, r.K, r.f, r.hist, p⟩
theorem findL_some {f : Nat → Nat → Option Nat} {h : List Nat} {n i : Nat} {p : List Nat} (hf : f (p.getD (p.length - 1) 0) (h.getD (h.length - p.length) 0) = some i) : Rw.findL f h (n + 1) p = Rw.findL f h n (p ++ [i]) := by
  rw [Rw.findL, hf]
theorem findL_none {f : Nat → Nat → Option Nat} {h : List Nat} {n : Nat} {p : List Nat} (hf : f (p.getD (p.length - 1) 0) (h.getD (h.length - p.length) 0) = none) : Rw.findL f h (n + 1) p = p := by
  rw [Rw.findL, hf]
theorem held_take {w : World} {O : Paint} {c : Nat} {e : TypeId} {g n cap k : Nat} {xs : List Value} (h : Held w O c e (.slice (some ⟨g, 0, none⟩) n cap) xs) (hk : k ≤ n) : Held w O c e (.slice (some ⟨g, 0, none⟩) k cap) (xs.take k) := by
  obtain ⟨⟨h1, h2⟩, hp⟩ := h
  rcases h2 with ⟨e0, _⟩ | ⟨g', p, cur, e1, e2, e3, e4, e5, e6, e7⟩
  · cases e0
  · simp only [Value.slice.injEq, Option.some.injEq, Addr.mk.injEq, and_true] at e1
    obtain ⟨rfl, rfl, rfl⟩ := e1
    have hl : (xs.take k).length = k := by rw [List.length_take]; omega
    refine ⟨⟨by rw [hl]; omega, .inr ⟨g, cap, cur, by rw [hl], e2, e3, by omega, e5, e6, ?_⟩⟩, fun k hk => hp k hk⟩
    rw [hl]
    have := congrArg (List.take k) e7
    rw [List.take_take] at this
    rw [show min k (xs.length * 1) = k * 1 by omega] at this
    exact this
section
variable {cs : List Nat} {w w' : World} {O O' : Paint} {b d : Nat} {m : CM} {r : Rw}
theorem Rw.Ok.setP (h : r.Ok) {p : List Nat} (h1 : p.length ≤ r.hist.length + 1) (h2 : ∀ i ∈ p, (r.K i).isSome = true) : (r.setP p).Ok := ⟨h.order, h.cells, h.used, h.hist, h1, h2, h.tab, h.f⟩
set_option maxRecDepth 100000 in
set_option maxHeartbeats 4000000 in
theorem find_any (h : RwAt w O b d m r) (hp : 0 < r.pth.length) :
    Calls Try.prog 73 #[.pointer (some ⟨d, 0, none⟩)] w fun x w' => x = .returned (.tuple #[]) ∧ CxTo w O b d r.refind w' := by
  obtain ⟨hl1, hl2⟩ := h.ok.short
  have hl3 := h.ok.len
  obtain ⟨e0, e1, e2, e3, e4, e5⟩ := six_at h.obj.1
  have f4 := h.obj.free 4
  obtain ⟨g, cap, hv⟩ := h.vq_form hp
  rw [hv] at e4
  have hh := h.pth
  rw [hv] at hh
  have hcap : r.pth.length ≤ cap := by
    obtain ⟨g', cap', e, h1, _⟩ := hh.form (by rw [iv_len]; exact hp)
    simp only [Value.slice.injEq, Option.some.injEq, Addr.mk.injEq] at e
    rw [iv_len] at h1
    omega
  have hh2 := held_take hh (k := 1) (by omega)
  have hiv : (iv r.pth).take 1 = iv (r.pth.take 1) := by unfold iv; rw [List.map_take]
  rw [hiv] at hh2
  have hb2 := (six_blk h.obj).2.1 (.slice (some ⟨g, 0, none⟩) 1 cap)
  have hs2 := (six_blk h.obj).2.2.2 4 (.slice (some ⟨g, 0, none⟩) 1 cap) [b] (by simp)
  have hk1 : (r.setP (r.pth.take 1)).Ok := h.ok.setP (by rw [List.length_take]; omega) (fun i hi => h.ok.pth i (List.mem_of_mem_take hi))
  obtain ⟨n1, n2⟩ := h.newPth (r' := r.setP (r.pth.take 1)) (hs2.mono (ds := [b + 6, b]) (by simp)) hb2 (hh2.step hs2 (by simp)) rfl hk1
  have HST := Lib.hid (show CxTo w O b d (r.setP (r.pth.take 1)) _ from ⟨_, _, n1, n2⟩)
  have hp1 : (r.pth.take 1).length = 1 := by rw [List.length_take]; omega
  have HP1 := Lib.hid hp1
  have HK1 := Lib.hid hk1
  have hcap1 : 1 ≤ cap := by omega
  obtain ⟨i0, hi, hz0, hz1, hz2⟩ := info_parts infoN
  have HRF := Lib.hid (show r.refind = r.setP (Rw.findL r.f r.hist r.hist.length (r.pth.take 1)) from rfl)
  clear h hh hh2 hb2 hs2 n1 n2 hk1 hp1 e0 e1 e2 e3 e5 hv hiv hcap
  go_enter Try.func73, Try.ntmps73
  go_wp2_with fail
  clear e4 f4
  go_loopw [2] (fun i wr => ∃ (k : Nat) (p : List Nat), 1 ≤ k ∧ k ≤ r.hist.length + 1 ∧ p.length = k ∧ i = .int .i64 (k : Int) ∧ r.refind = r.setP (Rw.findL r.f r.hist (r.hist.length + 1 - k) p) ∧ CxTo w O b d (r.setP p) wr) (fun i _ => r.hist.length + 1 - (intOf i).toNat)
  case atStart => exact ⟨1, _, Nat.le_refl _, by omega, HP1.out, rfl, by rw [HRF.out]; rfl, HST.out⟩
  case round =>
    obtain ⟨k, p, hk1, hk2, hpl, rfl, hrf, O1, m1, hs1, h1⟩ := hrel
    obtain ⟨f0, f1, f2, f3, f4, f5⟩ := six_at h1.obj.1
    obtain ⟨A3, q3, e3, _, _⟩ := sl_form h1.hist
    rw [bv_len, show (r.setP p).hist = r.hist from rfl] at e3
    rw [e3] at f3
    have HS1 := Lib.hid hs1
    have H1 := Lib.hid h1
    have HRF2 := Lib.hid hrf
    have HPL := Lib.hid hpl
    have hms : r.hist.length + 1 - (k + 1) < r.hist.length + 1 - k ∨ ¬ k ≤ r.hist.length := by omega
    by_cases hlt : k ≤ r.hist.length
    · as_aux_lemma =>
      have g1 : (k : Int) ≤ (r.hist.length : Int) := by omega
      obtain ⟨i, hpi⟩ : ∃ i, p[k - 1]? = some i := ⟨_, List.getElem?_eq_getElem (by omega)⟩
      obtain ⟨y, hy⟩ : ∃ y, r.hist[r.hist.length - k]? = some y := ⟨_, List.getElem?_eq_getElem (by omega)⟩
      have hpx : i < 1000000000 := by
        have h2 := h1.ok.pth i (List.mem_of_getElem? hpi)
        obtain ⟨l, hl⟩ := Option.isSome_iff_exists.1 h2
        have := (h1.ok.tab i l hl).2.1
        have := h1.ok.used
        have := h1.ok.cells.2
        omega
      have hyx : y < 256 := h1.ok.hist.2 y (List.mem_of_getElem? hy)
      have HST := Lib.hid (step_any (h1.idle (Step.refl [] wr O1).drew) (k := k) (p := i) (y := y) hk1 hpi hlt hy)
      have HC8 := Lib.hid (fun (W : World) (hb : Below wr.drew.heap.size wr.drew W) => show Step [] wr O1 W O1 from (Step.refl [] wr O1).drew.trans (Step.of_below_same hb O1))
      have HC2 := Lib.hid (fun W O' (hs : Step [] wr O1 W O') => (six_at (h1.obj.step hs (by simp)).1).2.2.1)
      have HLK := Lib.hid (fun (W : World) (hs : Step [] wr O1 W O1) => (h1.map.step hs (by simp)).look hpx hyx)
      have HGD := Lib.hid (show r.f (p.getD (p.length - 1) 0) (r.hist.getD (r.hist.length - p.length) 0) = r.f i y by
        rw [List.getD_eq_getElem?_getD, List.getD_eq_getElem?_getD, hpl, hpi, hy]; rfl)
      have HFU := Lib.hid (show r.hist.length + 1 - k = (r.hist.length + 1 - (k + 1)) + 1 by omega)
      have hms2 : r.hist.length + 1 - (k + 1) < r.hist.length + 1 - k := by omega
      have hkn : k + 1 ≤ r.hist.length + 1 := by omega
      have hk16 : k ≤ 16 := by omega
      cases hfx : r.f i y with
      | none =>
        rw [show (r.setP p).f = r.f from rfl, hfx] at HLK
        have HEND := Lib.hid (show r.refind = r.setP p by rw [HRF2.out, HFU.out, findL_none (by rw [HGD.out]; exact hfx)])
        have HFIN := Lib.hid (fun (W : World) (hs : Step [] wr O1 W O1) => show CxTo w O b d r.refind W from by rw [HEND.out]; exact ⟨O1, m1, HS1.out.trans hs.nil, H1.out.idle hs⟩)
        clear hpl hpi hy hfx hs1 h1 hrf e3 hms hpx hyx hlt
        go_wp2_with fail
        go_region_held3 (fun W' => W'.cell? ⟨d, 2, none⟩ = some (.map (some m1.mb))) (first | exact f2 | exact T0.out | go_keep) (first | (go_at_call 100; (with_reducible refine HST.out.mono ?_); rintro z1 w8 ⟨rfl, hb8⟩; have hs8 := HC8.out _ hb8; have T0 := Lib.hid (HC2.out _ _ hs8); have HS8 := Lib.hid hs8; have hlook := HLK.out _ hs8; clear hb8 hs8))
        go_wp2_with fail
        first | go_end0 | (simp only [Exit.inBlock, Exit.then]; refine bodyPost_ret (results_none rfl _ _ _) rfl ?_) | refine bodyPost_ret (results_none rfl _ _ _) rfl ?_
        exact ⟨rfl, HFIN.out _ HS8.out⟩
      | some q =>
        rw [show (r.setP p).f = r.f from rfl, hfx] at HLK
        have HNX := Lib.hid (show r.refind = r.setP (Rw.findL r.f r.hist (r.hist.length + 1 - (k + 1)) (p ++ [q])) by rw [HRF2.out, HFU.out, findL_some (by rw [HGD.out]; exact hfx)])
        have hKq : ((r.setP p).K q).isSome = true := h1.ok.f i y q hfx
        have HKQ := Lib.hid hKq
        have HPLN := Lib.hid (show (p ++ [q]).length = k + 1 by rw [List.length_append, hpl]; rfl)
        have HROW := Lib.hid (fun (W : World) (hs : Step [] wr O1 W O1) => (h1.pth.step hs (by simp)).row)
        rw [iv_len, show (r.setP p).pth = p from rfl, hpl] at HROW
        have HPU := Lib.hid (fun (W : World) (hs : Step [] wr O1 W O1) (W3 : World) (g cap : Nat) (o : Obj) => (h1.idle hs).pushed (W3 := W3) (g := g) (cap := cap) (o := o) hKq (by rw [show (r.setP p).pth = p from rfl, hpl]; exact hlt))
        rw [show (r.setP p).pth = p from rfl, hpl] at HPU
        have HC4 := Lib.hid (fun W O' (hs : Step [] wr O1 W O') => (six_at (h1.obj.step hs (by simp)).1).2.2.2.2.1)
        have hb1 : k + 1 ≤ maxLen := by unfold maxLen; omega
        have hb2 : (k + 1) * 8 ≤ 140737488355328 := by omega
        clear hpl hpi hy hfx hs1 h1 hrf e3 hms hpx hyx hlt hKq
        go_wp2_with fail
        go_region_held3 (fun W' => W'.cell? ⟨d, 2, none⟩ = some (.map (some m1.mb))) (first | exact f2 | exact T0.out | go_keep) (first | (go_at_call 100; (with_reducible refine HST.out.mono ?_); rintro z1 w8 ⟨rfl, hb8⟩; have hs8 := HC8.out _ hb8; have T0 := Lib.hid (HC2.out _ _ hs8); have HS8 := Lib.hid hs8; have hlook := HLK.out _ hs8; clear hb8 hs8))
        clear hlook f0 f1 f2 f3 f4 f5
        have c4 := HC4.out _ _ HS8.out
        go_wp2_with (at_builtin; refine wpList_append_one _ rfl _ _ 35 rfl 3 i0 (.int .i64 0) 1 8 Try.underlying35 hi hz0 hz1 hz2 rfl (by decide) m1.vq _ _ rfl ((HROW.out _ HS8.out).alloc _) ⟨w8.heap.size, 0, none⟩ 1 [.int .i64 (q : Int)] rfl rfl (one_new _ _ _) (by intro u hu; simp at hu; subst hu; rfl) hb1 hb2 ?_; intro g cap w10 hown hgr hmv; obtain ⟨⟨c4, c5⟩, c6, c7⟩ := HPU.out w8 HS8.out w10 g cap _ hown hgr hmv; have HFIN := Lib.hid (show CxTo w O b d (r.setP (p ++ [q])) _ from ⟨_, _, HS1.out.trans (HS8.out.nil.trans c6), c7⟩); clear hown hgr hmv c6 c7)
        go_roundw
        case rel => exact ⟨k + 1, p ++ [q], by omega, hkn, HPLN.out, by go_num, HNX.out, HFIN.out⟩
        case measure => simp [intOf]; omega
    · obtain rfl : k = r.hist.length + 1 := by omega
      have g1 : ¬ ((r.hist.length + 1 : Nat) : Int) ≤ (r.hist.length : Int) := by omega
      have hend : r.refind = r.setP p := by rw [hrf, show r.hist.length + 1 - (r.hist.length + 1) = 0 by omega]; rfl
      have HFIN := Lib.hid (show CxTo w O b d r.refind wr from by rw [hend]; exact ⟨O1, m1, HS1.out, H1.out⟩)
      clear hs1 h1 hrf hend e3 hms hpl hlt
      generalize r.hist.length + 1 = k at *
      go_wp2_with fail
      first | go_end0 | (simp only [Exit.inBlock, Exit.then]; refine bodyPost_ret (results_none rfl _ _ _) rfl ?_) | refine bodyPost_ret (results_none rfl _ _ _) rfl ?_
      exact ⟨rfl, HFIN.out⟩
end
end Go.Proofs.Yteacmcckhjabmaa.Cx
