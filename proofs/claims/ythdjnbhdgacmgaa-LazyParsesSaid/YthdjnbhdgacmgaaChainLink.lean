/-
  Package chain: the contract of link.
-/
import Derived.Test.YthdjnbhdgacmgaaChainNew
import Derived.Deep.DeepCutAuto
import Derived.Deep.CutBlock
namespace Go.Proofs.Ythdjnbhdgacmgaa.Ch
open Go.RowKit Go.Maps
open Mt
theorem size8 : (Try.prog.info? 5).map (·.size) = some 1 := by kernel_rfl
/-- 'copy(h[:], t)': of a longer text the first three bytes. -/
theorem run_copy_three {P : Program} (w : World) (dT sT ty elem : TypeId) (b dCap : Nat) (t : ByteArray) (x0 x1 x2 : UInt8) (r : List UInt8) (hL : t.data.toList = x0 :: x1 :: x2 :: r) (T : TypeId) (z0 z1 z2 : Value)
    (hu : P.underlying dT = some (.slice elem)) (hs : (P.info? elem).map (·.size) = some 1) (hb : w.heap[b]? = some (.cells #[z0, z1, z2] T (0, 0))) :
    (Builtin.copy_ #[dT, sT] ty #[.slice (some ⟨b, 0, none⟩) 3 dCap, .string t]).run P w = .ok (goInt 3) (((w.setCell ⟨b, 0, none⟩ (.int .u8 (x0.toNat : Int))).setCell ⟨b, 1, none⟩ (.int .u8 (x1.toNat : Int))).setCell ⟨b, 2, none⟩ (.int .u8 (x2.toNat : Int))) := by
  have hsz : t.size = r.length + 3 := by
    have : t.data.toList.length = t.size := by simp
    rw [← this, hL]; simp
  have hmin : Nat.min t.size 3 = 3 := by rw [hsz]; exact Nat.min_eq_right (by omega)
  have hcell : ∀ j, j < 3 → (w.cell? ⟨b, 0 + 0 + j, none⟩).isSome = true := by
    intro j hj
    have : j = 0 ∨ j = 1 ∨ j = 2 := by omega
    rcases this with rfl | rfl | rfl <;> simp [World.cell?, hb]
  have hfree : ∀ j, j < 3 → w.frozen? ⟨b, 0 + 0 + j, none⟩ = false := by
    intro j hj
    simp [World.frozen?, hb]
  have hst := run_storeCells_cells (P := P) b 0 [.int .u8 (x0.toNat : Int), .int .u8 (x1.toNat : Int), .int .u8 (x2.toNat : Int)] 0 w hcell hfree (by
    intro v hv
    simp at hv
    rcases hv with rfl | rfl | rfl <;> rfl)
  cases hq : P.info? elem with
  | none => simp [hq] at hs
  | some i =>
    simp [hq] at hs
    simp [Builtin.copy_, run_underlying hu, Builtin.lenOf, Builtin.firstCells, sizeOf, typeInfo, hq, hmin, hL, hst, Result.andThen]
    rfl
/-- .. as a step of a region that draws. -/
theorem step_copy_three {P : Program} {ops : Array Oper} {o : Oper} {a : Act} {w : World} {K : Act → World → Prop} {Q : Exit → Act → World → Prop} {E : Prop}
    (hg : o.guard = none) (d x : Operand) (dT sT : TypeId) (hop : o.op = Op.call { callee := Callee.builtin Builtin.copy, args := #[d, x], argTypes := #[dT, sT] })
    (elem : TypeId) (hu : P.underlying dT = some (.slice elem)) (hs : (P.info? elem).map (·.size) = some 1) (b dCap : Nat) (hd : a.eval d = .slice (some ⟨b, 0, none⟩) 3 dCap) (t : ByteArray) (hx : a.eval x = .string t)
    (x0 x1 x2 : UInt8) (r : List UInt8) (hL : t.data.toList = x0 :: x1 :: x2 :: r) (T : TypeId) (z0 z1 z2 : Value) (hb : w.heap[b]? = some (.cells #[z0, z1, z2] T (0, 0)))
    (hK : K (a.put o.dst (goInt 3)) (((w.setCell ⟨b, 0, none⟩ (.int .u8 (x0.toNat : Int))).setCell ⟨b, 1, none⟩ (.int .u8 (x1.toNat : Int))).setCell ⟨b, 2, none⟩ (.int .u8 (x2.toNat : Int)))) :
    if Region.wanted o (yielded ops a.tmps) = true then Oper.wp P o a w K Q else E := by
  have hw : Region.wanted o (yielded ops a.tmps) = true := by simp [Region.wanted, hg]
  rw [if_pos hw]
  have hrun := run_copy_three (P := P) w dT sT o.type elem b dCap t x0 x1 x2 r hL T z0 z1 z2 hu hs hb
  unfold Oper.wp
  simp [execOp, hop, resolve, invoke, builtin, hd, hx, hrun, Result.andThen]
  exact hK
theorem three_bytes {s : ByteArray} {p : Nat} (hp : p + 3 ≤ s.size) : ∃ r, (s.extract p s.size).data.toList = s[p] :: s[p + 1] :: s[p + 2] :: r := by
  refine ⟨s.data.toList.drop (p + 3), ?_⟩
  have e : (s.extract p s.size).data.toList = s.data.toList.drop p := by
    simp [ByteArray.data_extract]
    rw [List.take_of_length_le (by simp)]
  rw [e, List.drop_eq_getElem_cons (by simp; omega), List.drop_eq_getElem_cons (by simp; omega), List.drop_eq_getElem_cons (by simp; omega)]
  rfl
theorem three_laid {w W : World} {H : Nat} {z0 z1 z2 x0 x1 x2 : Value} {T : TypeId} (hb : Below H w W) (hz : W.heap[H]? = some (.cells #[z0, z1, z2] T (0, 0))) :
    Below H w (((W.setCell ⟨H, 0, none⟩ x0).setCell ⟨H, 1, none⟩ x1).setCell ⟨H, 2, none⟩ x2).drew ∧ (((W.setCell ⟨H, 0, none⟩ x0).setCell ⟨H, 1, none⟩ x1).setCell ⟨H, 2, none⟩ x2).drew.heap[H]? = some (.cells #[x0, x1, x2] T (0, 0)) := by
  have h1 := heap_setCell_same W H 0 _ _ x0 hz
  have h2 := heap_setCell_same _ H 1 _ _ x1 h1
  have h3 := heap_setCell_same _ H 2 _ _ x2 h2
  have hb' := ((hb.setCell (p := ⟨H, 0, none⟩) (Nat.le_refl _) x0).setCell (p := ⟨H, 1, none⟩) (Nat.le_refl _) x1).setCell (p := ⟨H, 2, none⟩) (Nat.le_refl _) x2
  have h4 : (((W.setCell ⟨H, 0, none⟩ x0).setCell ⟨H, 1, none⟩ x1).setCell ⟨H, 2, none⟩ x2).heap[H]? = some (.cells #[x0, x1, x2] T (0, 0)) := by simpa using h3
  exact ⟨⟨hb'.os, hb'.tape, hb'.output, hb'.size, hb'.block⟩, h4⟩
theorem three {w : World} {X : Nat} {a b c : Value} {t : TypeId} (h : w.heap[X]? = some (.cells #[a, b, c] t (0, 0))) :
    (w.cell? ⟨X, 0, none⟩ = some a ∧ w.cell? ⟨X, 1, none⟩ = some b ∧ w.cell? ⟨X, 2, none⟩ = some c) ∧ (w.frozen? ⟨X, 0, none⟩ = false ∧ w.frozen? ⟨X, 1, none⟩ = false ∧ w.frozen? ⟨X, 2, none⟩ = false) := by
  refine ⟨⟨?_, ?_, ?_⟩, ?_, ?_, ?_⟩ <;> simp [World.cell?, World.frozen?, h]
theorem wf64 {x : Nat} (h : x ≤ 1000000000000) : (Lit.int .i64 (x : Int)).wf = true := by
  have h1 : (IntKind.i64.min : Int) ≤ x := by rw [show IntKind.i64.min = -9223372036854775808 from rfl]; omega
  simp [Lit.wf, h1]
  omega
theorem zeroE (w : World) : (zeroValue 3).run Try.prog w = .ok (.int .i64 0) w := by kernel_rfl
section
variable {w w' : World} {O O' : Paint} {c a : Nat} {s : ByteArray} {window cut : Int} {p r B : Nat} {v : Value} {xs : List Int} {D : Dm}
/-- What the map tells of the place's head. -/
theorem FinAt.look (h : FinAt w O c a s window cut p p B v xs D) (hp : p + 3 ≤ s.size) :
    (Instr.lookup 190 (.map (some B)) (val3 s p) true).run Try.prog w = .ok (.tuple #[.int .i64 (if prevF (bt s) p p = -1 then 0 else prevF (bt s) p p), .bool (decide (prevF (bt s) p p ≠ -1))]) w := by
  obtain ⟨v0, ps0, hrun, hR⟩ := h.own.look_ok law3 Try.underlying190 (zeroE w) (plainElem_int Try.underlying3 (by decide)) (key_of3 s p)
  obtain ⟨h1, h2⟩ := h.tells hp p hp
  obtain ⟨n, rfl, hz, _⟩ := plainElem_int_inv Try.underlying3 hR
  have hz1 := congrArg Prod.fst hz
  simp only [h2] at hz1
  rw [h1] at hrun
  cases hz1
  exact hrun
theorem FinAt.drewN (h : FinAt w O c a s window cut p r B v xs D) (n : Nat) : FinAt (w.drewN n) O c a s window cut p r B v xs D := h.step ((Step.refl [] w O).drewN n) (by simp)
theorem FinAt.drew (h : FinAt w O c a s window cut p r B v xs D) : FinAt w.drew O c a s window cut p r B v xs D := h.step ((Step.refl [] w O).drew) (by simp)
/-- What link leaves. -/
def LinkTo (w : World) (O : Paint) (c a : Nat) (s : ByteArray) (window cut : Int) (p B : Nat) (v : Value) (x : Ending) (w' : World) : Prop := x = .returned (.tuple #[]) ∧ ∃ xs' D', Step [c] w O w' O ∧ FinAt w' O c a s window cut p (p + 1) B v xs' D'
set_option maxRecDepth 100000 in
set_option maxHeartbeats 4000000 in
theorem link_any (h : FinAt w O c a s window cut p p B v xs D) (hp : p + 3 ≤ s.size) :
    Calls Try.prog 102 #[.pointer (some ⟨a, 0, none⟩)] w (LinkTo w O c a s window cut p B v) := by
  have hxl := h.len
  obtain ⟨g, cap, hv, hcap, hcm, hOg, hgl⟩ := h.held.form (by rw [List.length_map]; omega)
  rw [List.length_map] at hv hcap
  subst hv
  have HF := Lib.hid h
  have HF0 := Lib.hid h
  obtain ⟨h0, h1, h2, h3, h4, h5⟩ := h.cells
  have hsm := h.small
  clear h hOg hcm
  go_enter Try.func102, Try.ntmps102
  go_upto_region 1 with (fail)
  have HH := Lib.hid (heap_alloc_new w (.cells #[.int .u8 0, .int .u8 0, .int .u8 0] 209))
  have HF1 := Lib.hid (HF.out.below ((Below.refl _ w).alloc (Nat.le_refl _) (.cells #[.int .u8 0, .int .u8 0, .int .u8 0] 209)))
  have HB1 := Lib.hid ((Below.refl _ w).alloc (Nat.le_refl _) (.cells #[.int .u8 0, .int .u8 0, .int .u8 0] 209))
  clear h0 h1 h2 h3 h4 h5 HF hgl
  obtain ⟨h0, h1, h2, h3, h4, h5⟩ := HF1.out.cells
  generalize w.alloc (.cells #[.int .u8 0, .int .u8 0, .int .u8 0] 209) = W1 at *
  generalize hHe : w.heap.size = H at *
  have HHE := Lib.hid hHe
  clear hHe
  obtain ⟨r, hL⟩ := three_bytes hp
  have HL := Lib.hid hL
  clear hL
  go_cut [15] (fun _ wc => Below H w wc ∧ wc.heap[H]? = some (.cells #[.int .u8 (bt s p : Int), .int .u8 (bt s (p + 1) : Int), .int .u8 (bt s (p + 2) : Int)] 209 (0, 0)))
  case first =>
    as_aux_lemma =>
    -- BEGIN one
    have e1 : (0 : Int) ≤ (p : Int) := by omega
    have e2 : (p : Int) ≤ (s.size : Int) := by omega
    have e3 : p ≤ s.size := by omega
    go_region_law ((refine step_copy_three rfl (.tmp 5) (.tmp 14) 77 9 rfl 5 Try.underlying77 size8 H 3 rfl (s.extract p s.size) rfl s[p] s[p + 1] s[p + 2] r HL.out 209 _ _ _ (show W1.drew.heap[H]? = _ from HH.out) ?_))
    all_goals
      go_wp2_with fail
      go_meet
      have := three_laid (x0 := .int .u8 (s[p].toNat : Int)) (x1 := .int .u8 (s[p + 1].toNat : Int)) (x2 := .int .u8 (s[p + 2].toNat : Int)) HB1.out HH.out
      rw [bt_at, bt_at, bt_at] at this
      rw [bt_at, bt_at, bt_at]
      exact this
    -- END one
  case rest =>
    obtain ⟨hb2, hh2⟩ := hcut
    have hH : H ≤ wc.heap.size := by have := lt_of_heap hh2; omega
    have HF2 := Lib.hid (HF0.out.below (by rw [HHE.out]; exact hb2))
    have HS2 : Hid (Step [] w O wc O) := Lib.hid (Step.of_below_same (by rw [HHE.out]; exact hb2) O)
    have HH2 := Lib.hid hh2
    obtain ⟨⟨c0, c1, c2⟩, _⟩ := three hh2
    clear h0 h1 h2 h3 h4 h5 HF1 HB1 HH HL hb2 hh2 HF0
    obtain ⟨h0, h1, h2, h3, h4, h5⟩ := HF2.out.cells
    obtain ⟨pv, hpv⟩ : ∃ pv, pv = prevF (bt s) p p := ⟨_, rfl⟩
    have HPV := Lib.hid hpv
    have k1 : ∀ n, (Instr.lookup 190 (.map (some B)) (.agg #[.int .u8 (bt s p : Int), .int .u8 (bt s (p + 1) : Int), .int .u8 (bt s (p + 2) : Int)]) true).run Try.prog (wc.drewN n) = .ok (.tuple #[.int .i64 (if pv = -1 then 0 else pv), .bool (decide (pv ≠ -1))]) (wc.drewN n) := fun n => by rw [hpv]; exact (HF2.out.drewN n).look hp
    have k2 := k1 1
    clear hpv
    have HF3 := fun n => (HF2.out.drewN n)
    have HS3 : ∀ n, Step [] w O (wc.drewN n) O := fun n => (HS2.out.drewN n)
    have HH3 : ∀ n, (wc.drewN n).heap[H]? = _ := fun n => HH2.out
    have KF3 := Lib.hid HF3
    have KS3 := Lib.hid HS3
    have KH3 := Lib.hid HH3
    clear HF3 HS3 HH3
    by_cases hm : pv = -1
    · subst hm
      rw [if_pos rfl] at k1 k2
      have k0 : decide ((-1 : Int) ≠ -1) = false := by decide
      rw [k0] at k1 k2
      clear k0
      as_aux_lemma =>
      go_upto_region 2 with (fail)
      go_quiet (fail)
      clear k1 k2
      have HF3 := Lib.hid (KF3.out nq)
      have HS3 := Lib.hid (KS3.out nq)
      have HH3 := Lib.hid (KH3.out nq)
      generalize wc.drewN nq = W3 at *
      clear HF2 HS2 HH2 KF3 KS3 KH3 h0 h1 h2 h3 h4 h5 c0 c1 c2 hH
      go_upto_region 5 with (fail)
      obtain ⟨⟨c0, c1, c2⟩, _⟩ := three HH3.out
      obtain ⟨h0, h1, h2, h3, h4, h5⟩ := HF3.out.cells
      have hpx : p < xs.length := by omega
      have hg0 := HF3.out.held.cell (j := p) (x := .int .i64 xs[p]) (by rw [List.getElem?_map, List.getElem?_eq_getElem hpx]; rfl)
      have hgf := HF3.out.held.free p
      have hp0 : (0 : Int) ≤ (p : Int) := by omega
      have hpx' : (p : Int) < (xs.length : Int) := by omega
      have hst := HF3.out.stored
      rw [← HPV.out] at hst
      have HF4 := Lib.hid hst.1
      have HS4 := Lib.hid hst.2
      have hgH : g ≠ H := HF3.out.held.ne HH3.out (by decide)
      have HH4 : Hid ((W3.setCell ⟨g, p, none⟩ (.int .i64 (-1))).heap[H]? = _) := Lib.hid ((Below.heap_setCell _ _ _ _ (Ne.symm hgH)).trans HH3.out)
      have hx4 : (xs.set p ((-1) : Int))[p]? = some (prevF (bt s) p p) := by rw [← HPV.out, List.getElem?_set_self hpx]
      have HX4 := Lib.hid hx4
      clear hst hx4 hgH
      go_region
      all_goals
        go_upto_region 6 with (fail)
        have HS5 := Lib.hid (HS3.out.mono (ds := [c]) (by simp) |>.trans HS4.out |>.drew)
        have HF5 := Lib.hid HF4.out.drew
        have HH5 : Hid ((W3.setCell ⟨g, p, none⟩ (.int .i64 (-1))).drew.heap[H]? = _) := Lib.hid HH4.out
        clear h0 h1 h2 h3 h4 h5 c0 c1 c2 hg0 hgf HF3 HS3 HH3 HF4 HS4 HH4
        generalize (W3.setCell ⟨g, p, none⟩ (.int .i64 (-1))).drew = W5 at *
        generalize xs.set p (-1) = ys at *
        have hyl : ys.length = xs.length := by have := HF5.out.len; omega
        rw [← hyl] at HF5
        obtain ⟨⟨c0, c1, c2⟩, _⟩ := three HH5.out
        obtain ⟨h0, h1, h2, h3, h4, h5⟩ := HF5.out.cells
        have HOW := Lib.hid HF5.out.own
        go_still_tail 9, (by kernel_rfl)
        change wpList _ _ _ _ _ W5.drew
        go_wp2_with (at_mapUpdate; refine wpList_mapUpdate_own _ rfl _ _ _ 190 rfl 209 3 law3 Try.underlying190 _ B p D rfl HOW.out.drew (by unfold maxLen; omega) _ _ (key3 s p) rfl rfl (key_of3 s p) (.lit (.int .i64 (p : Int))) [] (plainElem_int Try.underlying3 (wf64 (by omega))) ?_; intro w6 hown6 hgrow6)
        have hmap := HF5.out.drew.mapped hp HX4.out hown6 hgrow6
        have HM := Lib.hid hmap.1
        have HS6 := Lib.hid (HS5.out.drew.trans hmap.2)
        clear hmap hown6 hgrow6 HOW HF5 HS5 HH5 h0 h1 h2 h3 h4 h5 c0 c1 c2
        go_wp2_with fail
        go_end0
        have hfin := HM.out
        rw [hyl, hxl] at hfin
        exact ⟨rfl, _, _, HS6.out, hfin⟩
    · rw [if_neg hm] at k1 k2
      have k0 : decide (pv ≠ -1) = true := by simpa using hm
      rw [k0] at k1 k2
      clear k0 hm
      as_aux_lemma =>
      go_upto_region 2 with (fail)
      go_quiet (fail)
      clear k1 k2
      have HF3 := Lib.hid (KF3.out nq)
      have HS3 := Lib.hid (KS3.out nq)
      have HH3 := Lib.hid (KH3.out nq)
      generalize wc.drewN nq = W3 at *
      clear HF2 HS2 HH2 KF3 KS3 KH3 h0 h1 h2 h3 h4 h5 c0 c1 c2 hH
      go_upto_region 5 with (fail)
      obtain ⟨⟨c0, c1, c2⟩, _⟩ := three HH3.out
      obtain ⟨h0, h1, h2, h3, h4, h5⟩ := HF3.out.cells
      have hpx : p < xs.length := by omega
      have hg0 := HF3.out.held.cell (j := p) (x := .int .i64 xs[p]) (by rw [List.getElem?_map, List.getElem?_eq_getElem hpx]; rfl)
      have hgf := HF3.out.held.free p
      have hp0 : (0 : Int) ≤ (p : Int) := by omega
      have hpx' : (p : Int) < (xs.length : Int) := by omega
      have hst := HF3.out.stored
      rw [← HPV.out] at hst
      have HF4 := Lib.hid hst.1
      have HS4 := Lib.hid hst.2
      have hgH : g ≠ H := HF3.out.held.ne HH3.out (by decide)
      have HH4 : Hid ((W3.setCell ⟨g, p, none⟩ (.int .i64 pv)).heap[H]? = _) := Lib.hid ((Below.heap_setCell _ _ _ _ (Ne.symm hgH)).trans HH3.out)
      have hx4 : (xs.set p (pv : Int))[p]? = some (prevF (bt s) p p) := by rw [← HPV.out, List.getElem?_set_self hpx]
      have HX4 := Lib.hid hx4
      clear hst hx4 hgH
      go_region
      all_goals
        go_upto_region 6 with (fail)
        have HS5 := Lib.hid (HS3.out.mono (ds := [c]) (by simp) |>.trans HS4.out |>.drew)
        have HF5 := Lib.hid HF4.out.drew
        have HH5 : Hid ((W3.setCell ⟨g, p, none⟩ (.int .i64 pv)).drew.heap[H]? = _) := Lib.hid HH4.out
        clear h0 h1 h2 h3 h4 h5 c0 c1 c2 hg0 hgf HF3 HS3 HH3 HF4 HS4 HH4
        generalize (W3.setCell ⟨g, p, none⟩ (.int .i64 pv)).drew = W5 at *
        generalize xs.set p pv = ys at *
        have hyl : ys.length = xs.length := by have := HF5.out.len; omega
        rw [← hyl] at HF5
        obtain ⟨⟨c0, c1, c2⟩, _⟩ := three HH5.out
        obtain ⟨h0, h1, h2, h3, h4, h5⟩ := HF5.out.cells
        have HOW := Lib.hid HF5.out.own
        go_still_tail 9, (by kernel_rfl)
        change wpList _ _ _ _ _ W5.drew
        go_wp2_with (at_mapUpdate; refine wpList_mapUpdate_own _ rfl _ _ _ 190 rfl 209 3 law3 Try.underlying190 _ B p D rfl HOW.out.drew (by unfold maxLen; omega) _ _ (key3 s p) rfl rfl (key_of3 s p) (.lit (.int .i64 (p : Int))) [] (plainElem_int Try.underlying3 (wf64 (by omega))) ?_; intro w6 hown6 hgrow6)
        have hmap := HF5.out.drew.mapped hp HX4.out hown6 hgrow6
        have HM := Lib.hid hmap.1
        have HS6 := Lib.hid (HS5.out.drew.trans hmap.2)
        clear hmap hown6 hgrow6 HOW HF5 HS5 HH5 h0 h1 h2 h3 h4 h5 c0 c1 c2
        go_wp2_with fail
        go_end0
        have hfin := HM.out
        rw [hyl, hxl] at hfin
        exact ⟨rfl, _, _, HS6.out, hfin⟩
end
end Go.Proofs.Ythdjnbhdgacmgaa.Ch
