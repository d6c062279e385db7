/-
  Package context: the contract of write.
-/
import Derived.Test.YteacmcckhjabmaaCtxForget
import Derived.Test.YteacmcckhjabmaaArenaTake
import Derived.Laws.CopyOwn
set_option linter.unusedVariables false
set_option linter.unusedSimpArgs false
namespace Go.Proofs.Yteacmcckhjabmaa.Cx
open Go.RowKit
open Rc Ar Fq
section
variable {cs : List Nat} {w w' : World} {O O' : Paint} {b d : Nat} {m : CM} {r : Rw}
theorem infoB : (Try.prog.info? 5).map (fun i => (i.zero, i.size, i.bytes)) = some (some (.int .u8 0), 1, 1) := by kernel_rfl
theorem sizeB : (Try.prog.info? 5).map (·.size) = some 1 := by kernel_rfl
theorem bv_one (l : List Nat) : ∀ u ∈ bv l, u.oneCell' = true := by
  intro u hu
  obtain ⟨x, _, rfl⟩ := List.mem_map.1 hu
  rfl
/-- All are moved one place down. -/
theorem held_shift {w : World} {O : Paint} {c g n cap sCap : Nat} {t ty : TypeId} {x : Value} {ys : List Value} {sp : Option Addr} (hu : Try.prog.underlying t = some (.slice 5)) (h : Held w O c 5 (.slice (some ⟨g, 0, none⟩) n cap) (x :: ys)) (h1 : ∀ v ∈ ys, v.oneCell' = true) (hsp : 0 < ys.length → sp = some ⟨g, 1, none⟩) :
    ∃ w', (Builtin.copy_ #[t, t] ty #[.slice (some ⟨g, 0, none⟩) n cap, .slice sp ys.length sCap]).run Try.prog w = .ok (.int .i64 (ys.length : Int)) w' ∧ Step [c] w O w' O ∧ Held w' O c 5 (.slice (some ⟨g, 0, none⟩) ys.length cap) ys := by
  obtain ⟨hr1, hr2⟩ := h.row
  rcases hr2 with ⟨e1, _⟩ | ⟨g', p, cur, e1, hb, hg, h2, h3, h4, h5⟩
  · cases e1
  simp only [Value.slice.injEq, Option.some.injEq, Addr.mk.injEq, and_true] at e1
  obtain ⟨rfl, rfl, rfl⟩ := e1
  simp only [List.length_cons, Nat.mul_one] at h2 h4 h5
  by_cases h0 : ys.length = 0
  · obtain rfl : ys = [] := List.eq_nil_of_length_eq_zero h0
    exact ⟨w, run_copy_none (P := Try.prog) w t t ty 5 _ sp _ _ 0 sCap hu sizeB (by simp), Step.refl _ _ _, ⟨⟨rfl, .inr ⟨g, cap, cur, rfl, hb, hg, Nat.zero_le _, h3, by simpa using h4, rfl⟩⟩, fun k hk => h.paint k hk⟩⟩
  · have hrun := run_copy_row (P := Try.prog) w t t ty 5 g 0 (ys.length + 1) cap ⟨g, 1, none⟩ ys.length sCap cur 5 ys hu sizeB hg (by simp [Nat.min_def]) (fun j v hv => by
      have := h.cell (j := j + 1) (x := v) (by simpa using hv)
      rw [show ((⟨g, 1, none⟩ : Addr).add j) = ⟨g, j + 1, none⟩ by simp [Addr.add, Nat.add_comm]]
      exact this) (by omega) h1
    rw [hsp (by omega)]
    refine ⟨_, hrun, ?_, ?_, fun k hk => h.paint k hk⟩
    · have hOg : O g = c := h.paint g rfl
      exact ⟨⟨rfl, rfl, rfl, by simp [World.setRow], fun k hk hn => setRow_other w g k _ (fun e => hn (by rw [e]; simp [hOg]))⟩, fun _ _ => rfl⟩
    · refine ⟨by simp, .inr ⟨g, cap, _, rfl, hb, setRow_heap w g _ _ _ _ hg, by omega, h3, ?_, ?_⟩⟩
      · simp; omega
      · simp
/-- What a method leaves. -/
def CxTo (w : World) (O : Paint) (b d : Nat) (r' : Rw) (w' : World) : Prop := ∃ O' m', Step (cols b) w O w' O' ∧ RwAt w' O' b d m' r'
/-- The last bytes alone are others. -/
theorem RwAt.newHist {r' : Rw} {vh' : Value} (h : RwAt w O b d m r) (hs : Step [b + 5, b] w O w' O') (hb : Blk w' O' b d (.cells #[.int .i64 (r.order : Int), .pointer (some ⟨m.a, 0, none⟩), .map (some m.mb), vh', m.vq, .int .i64 (r.rs : Int)] 117 (0, 0)))
    (hh : Held w' O' (b + 5) 5 vh' (bv r'.hist)) (he : r' = { r with hist := r'.hist }) (hk : r'.Ok) : CxTo w O b d r' w' := by
  have e1 : r'.order = r.order := by rw [he]
  have e2 : r'.cells = r.cells := by rw [he]
  have e3 : r'.used = r.used := by rw [he]
  have e4 : r'.rs = r.rs := by rw [he]
  have e5 : r'.K = r.K := by rw [he]
  have e6 : r'.f = r.f := by rw [he]
  have e7 : r'.pth = r.pth := by rw [he]
  refine ⟨O', { m with vh := vh' }, hs.mono (fun c hc => by simp [cols] at hc ⊢; omega), ?_⟩
  refine ⟨by rw [e1, e4]; exact hb, h.ar.step hs (by simp) (by simp) (by simp) (by simp), h.free, by rw [e2]; exact h.cells, by rw [e3]; exact h.used, hh, by rw [e7]; exact h.pth.step hs (by simp), by rw [e3, e6]; exact h.map.step hs (by simp), by rw [e5]; exact h.tabs.step hs (by simp), by rw [e5]; exact h.cont, hk⟩
theorem Rw.Ok.write {r : Rw} (h : r.Ok) {s : Nat} (hs : s < 256) : (r.write s).Ok := by
  have h1 := h.hist.1
  have h2 := h.len
  refine ⟨h.order, h.cells, h.used, ⟨?_, ?_⟩, ?_, h.pth, h.tab, h.f⟩
  · show (if r.order < r.hist.length + 1 then (r.hist ++ [s]).drop 1 else r.hist ++ [s]).length ≤ r.order
    split <;> simp <;> omega
  · intro x hx
    have hx2 : x ∈ (if r.order < r.hist.length + 1 then (r.hist ++ [s]).drop 1 else r.hist ++ [s]) := hx
    have : x ∈ r.hist ++ [s] := by
      split at hx2
      · exact List.mem_of_mem_drop hx2
      · exact hx2
    rcases List.mem_append.1 this with e | e
    · exact h.hist.2 x e
    · simp at e; omega
  · show r.pth.length ≤ (if r.order < r.hist.length + 1 then (r.hist ++ [s]).drop 1 else r.hist ++ [s]).length + 1
    split <;> simp <;> omega
set_option maxRecDepth 100000 in
set_option maxHeartbeats 1000000 in
theorem write_any (h : RwAt w O b d m r) {s : Nat} (hs : s < 256) :
    Calls Try.prog 72 #[.pointer (some ⟨d, 0, none⟩), .int .u8 (s : Int)] w fun x w' => x = .returned (.tuple #[]) ∧ CxTo w O b d (r.write s) w' := by
  obtain ⟨e0, e1, e2, e3, e4, e5⟩ := six_at h.obj.1
  have f3 := h.obj.free 3
  obtain ⟨i0, hi, hz0, hz1, hz2⟩ := info_parts infoB
  have hl2 : r.hist.length ≤ 16 := by have := h.ok.hist.1; have := h.ok.order; omega
  have hb1 : r.hist.length + 1 ≤ maxLen := by unfold maxLen; omega
  have hb2 : (r.hist.length + 1) * 1 ≤ 140737488355328 := by omega
  have H := Lib.hid h
  have HROW := Lib.hid h.hist.row
  rw [bv_len] at HROW
  obtain ⟨A3, p3, q3, _, _⟩ := sl_form h.hist
  rw [bv_len] at q3
  rw [q3] at e3 HROW
  clear h
  have HMO := Lib.hid (fun (W3 : World) (g cap : Nat) (o : Obj) (hr : W3.ownsRow 0 5 1 (.slice (some ⟨g, 0, none⟩) (r.hist.length + 1) cap) (r.hist.length + 1) (bv r.hist ++ [.int .u8 (s : Int)])) (hg : (w.alloc o).grownBy W3 (Value.slice A3 r.hist.length p3).ownBlock) (hm : Moved (w.alloc o) (Value.slice A3 r.hist.length p3) (.slice (some ⟨g, 0, none⟩) (r.hist.length + 1) cap)) => show Step [b + 5] w O W3 (Step.paint O w (b + 5)) ∧ Held W3 (Step.paint O w (b + 5)) (b + 5) 5 (.slice (some ⟨g, 0, none⟩) (r.hist.length + 1) cap) (bv (r.hist ++ [s])) ∧ Blk W3 (Step.paint O w (b + 5)) b d (.cells #[.int .i64 (r.order : Int), .pointer (some ⟨m.a, 0, none⟩), .map (some m.mb), m.vh, m.vq, .int .i64 (r.rs : Int)] 117 (0, 0)) from by
    obtain ⟨k1, k2⟩ := held_more H.out.hist (bv_len _) hr (by rw [q3]; exact hg) (by rw [q3]; exact hm)
    exact ⟨k1, by unfold bv at k2 ⊢; simpa using k2, H.out.obj.step k1 (by simp)⟩)
  have HBV := Lib.hid (rfl : r.hist = r.hist)
  have hord : r.order ≤ 16 := H.out.ok.order
  have hlo : r.hist.length ≤ r.order := H.out.ok.hist.1
  clear e0 e1 e2 e4 e5
  go_enter Try.func72, Try.ntmps72
  go_wp2_with (at_builtin; refine wpList_append_one _ rfl _ _ 73 rfl 5 i0 (.int .u8 0) 1 1 Try.underlying73 hi hz0 hz1 hz2 rfl (by decide) (.slice A3 r.hist.length p3) _ _ rfl (HROW.out.alloc _) ⟨w.heap.size, 0, none⟩ 1 [.int .u8 (s : Int)] rfl rfl (one_new _ _ _) (by intro u hu; simp at hu; subst hu; rfl) hb1 hb2 ?_; intro g cap w2 hown2 hgr2 hmv2; obtain ⟨k1, k2, k3⟩ := HMO.out w2 g cap _ hown2 hgr2 hmv2; clear hown2 hgr2 hmv2; obtain ⟨e0, e1, e2, e3, e4, e5⟩ := six_at k3.1; have f3 := k3.free 3; have K1 := Lib.hid k1; have K2 := Lib.hid k2; have K3 := Lib.hid k3; clear k1 k2 k3)
  have hb := (six_blk K3.out).1 (.slice (some ⟨g, 0, none⟩) (r.hist.length + 1) cap)
  have hst := (six_blk K3.out).2.2.2 3 (.slice (some ⟨g, 0, none⟩) (r.hist.length + 1) cap) [b] (by simp)
  have hhd := K2.out.step hst (by simp)
  have hbl := Lib.hid hb
  have hst2 := Lib.hid hst
  have hhd2 := Lib.hid hhd
  clear hb hst hhd e0 e1 e2 e3 e4 e5 f3 HMO HROW
  generalize w2.setCell ⟨d, 3, none⟩ (.slice (some ⟨g, 0, none⟩) (r.hist.length + 1) cap) = w3 at *
  obtain ⟨e0, e1, e2, e3, e4, e5⟩ := six_at hbl.out.1
  have hwr : (r.write s).hist = if r.order < r.hist.length + 1 then (r.hist ++ [s]).drop 1 else r.hist ++ [s] := rfl
  by_cases hgt : r.order < r.hist.length + 1
  · rw [if_pos hgt] at hwr
    have HW := Lib.hid hwr
    have g1 : (r.order : Int) < (r.hist.length : Int) + 1 := by omega
    have g2 : decide ((r.order : Int) < (r.hist.length : Int) + 1) = true := decide_eq_true g1
    clear hwr hgt
    go_quiet (fail)
    go_wp2_with fail
    have hw5 := (Step.refl [] w3 (Step.paint O w (b + 5))).drewN (nq + 1)
    have hh5 := hhd2.out.step hw5 (by simp)
    obtain ⟨x0, ys, hxy⟩ : ∃ x0 ys, r.hist ++ [s] = x0 :: ys := by
      cases hq : r.hist ++ [s] with
      | nil => simp at hq
      | cons x0 ys => exact ⟨x0, ys, rfl⟩
    have hyl : ys.length = r.hist.length := by have := congrArg List.length hxy; simp at this; omega
    have hW2 : (r.write s).hist = ys := by rw [HW.out, hxy]; rfl
    have hcap : r.hist.length + 1 ≤ cap := by
      obtain ⟨g', cap', e, h1, _⟩ := hh5.form (by rw [bv_len]; simp)
      simp only [Value.slice.injEq, Option.some.injEq, Addr.mk.injEq] at e
      rw [bv_len] at h1
      simp at h1
      omega
    rw [show bv (r.hist ++ [s]) = .int .u8 (x0 : Int) :: bv ys by rw [hxy]; rfl] at hh5
    obtain ⟨w5, hrun, hs5, hh6⟩ := held_shift (ty := 3) (sCap := cap - 1) (sp := if cap = 1 then some ⟨g, 0, none⟩ else some ⟨g, 1, none⟩) Try.underlying73 hh5 (bv_one ys) (fun h0 => by rw [bv_len, hyl] at h0; rw [if_neg (by omega)])
    rw [bv_len, hyl] at hrun hh6
    have hb5 := (hbl.out.step hw5 (by simp)).step hs5 (by simp)
    have hb6 := (six_blk hb5).1 (.slice (some ⟨g, 0, none⟩) r.hist.length cap)
    have hs6 := (six_blk hb5).2.2.2 3 (.slice (some ⟨g, 0, none⟩) r.hist.length cap) [b] (by simp)
    have HF := Lib.hid (H.out.newHist (r' := r.write s) (vh' := .slice (some ⟨g, 0, none⟩) r.hist.length cap) ((((K1.out.mono (ds := [b + 5, b]) (by simp)).trans (hst2.out.mono (by simp))).drewN (nq + 1)).trans ((hs5.mono (by simp)).trans (hs6.mono (by simp)))) hb6 (by rw [hW2]; exact hh6.step hs6 (by simp)) rfl (H.out.ok.write hs))
    obtain ⟨j0, j1, j2, j3, j4, j5⟩ := six_at hb5.1
    have f3 := hb5.free 3
    have g5 : 1 ≤ (r.hist.length : Int) + 1 := by omega
    have g6 : r.hist.length ≤ cap := by omega
    clear hw5 hh5 hxy hyl hW2 hcap hs5 hh6 hb5 hb6 hs6
    by_cases hc1 : cap = 1
    · subst hc1
      rw [if_pos rfl] at hrun
      go_region
      all_goals
        go_wp2_with fail
        first | go_end0 | (simp only [Exit.inBlock, Exit.then]; refine bodyPost_ret (results_none rfl _ _ _) rfl ?_) | refine bodyPost_ret (results_none rfl _ _ _) rfl ?_
        exact ⟨rfl, HF.out⟩
    · rw [if_neg hc1] at hrun
      go_region
      all_goals
        go_wp2_with fail
        first | go_end0 | (simp only [Exit.inBlock, Exit.then]; refine bodyPost_ret (results_none rfl _ _ _) rfl ?_) | refine bodyPost_ret (results_none rfl _ _ _) rfl ?_
        exact ⟨rfl, HF.out⟩
  · rw [if_neg hgt] at hwr
    have HW := Lib.hid hwr
    have g1 : ¬ (r.order : Int) < (r.hist.length : Int) + 1 := by omega
    have g2 : decide ((r.order : Int) < (r.hist.length : Int) + 1) = false := decide_eq_false g1
    clear hwr hgt
    go_quiet (fail)
    go_wp2_with fail
    first | go_end0 | (simp only [Exit.inBlock, Exit.then]; refine bodyPost_ret (results_none rfl _ _ _) rfl ?_) | refine bodyPost_ret (results_none rfl _ _ _) rfl ?_
    refine ⟨rfl, ?_⟩
    have hb4 := hbl.out.step ((Step.refl [] w3 _).drewN nq) (by simp)
    have hh4 := hhd2.out.step ((Step.refl [] w3 _).drewN nq) (by simp)
    refine H.out.newHist (vh' := .slice (some ⟨g, 0, none⟩) (r.hist.length + 1) cap) (((K1.out.mono (by simp)).trans (hst2.out.mono (by simp))).drewN nq) hb4 (by rw [HW.out]; exact hh4) rfl (H.out.ok.write hs)
end
end Go.Proofs.Yteacmcckhjabmaa.Cx
