/-
  The reference of layer 5: Add of a table without signs (two nil slices).
-/
import Derived.Test.YteacmcckhjabmaaFreqRef
namespace Go.Proofs.Yteacmcckhjabmaa.Fq
open Go.RowKit
/-- An append of nothing onto an empty slice. -/
theorem step_append_nil {P : Program} (w : World) {ops : Array Oper} {o : Oper} {a : Act} {K : Act → World → Prop} {Q : Exit → Act → World → Prop} {E : Prop} (hgd : o.guard = none) (s x : Operand) (t : TypeId)
    (ho : o.op = .call { callee := .builtin .append, args := #[s, x], argTypes := #[t, t] })
    (e : TypeId) (i : TypeInfo) (ht : P.underlying t = some (.slice e)) (hi : P.info? e = some i)
    (bx : Addr) (hs : a.eval s = .slice (some bx) 0 0) (hx : a.eval x = .slice none 0 0) (h : K (a.put o.dst (.slice (some bx) 0 0)) w) :
    if Region.wanted o (yielded ops a.tmps) = true then Oper.wp P o a w K Q else E := by
  have hw : Region.wanted o (yielded ops a.tmps) = true := by simp [Region.wanted, hgd]
  rw [if_pos hw]
  have hr : (Builtin.append_ #[t, t] o.type #[.slice (some bx) 0 0, .slice none 0 0]).run P w = .ok (.slice (some bx) 0 0) w := by
    simp [Builtin.append_, run_underlying ht, sizeOf, typeInfo, hi, Builtin.lenOf, Builtin.firstCells, storeCells]
  unfold Oper.wp execOp
  simp only [ho, resolve, invoke, builtin, Sem.run_bind, Sem.run_pure, Result.andThen_ok, List.map_toArray, List.map_cons, List.map_nil, hs, hx, hr]
  exact h
def Copied0 (W0 : World) (X : Nat) (W : World) : Prop := ∃ ba bb, W.heap[X]? = some (.cells #[.slice (some ba) 0 0, .slice (some bb) 0 0] 81 (0, 0)) ∧ Below W0.heap.size W0 W ∧ W0.heap.size ≤ X
theorem copied0_of {W0 W : World} {X : Nat} {ba bb : Addr} (h : W.heap[X]? = some (.cells #[.slice (some ba) 0 0, .slice (some bb) 0 0] 81 (0, 0))) (hb : Below W0.heap.size W0 W) (h3 : W0.heap.size ≤ X) : Copied0 W0 X W := ⟨ba, bb, h, hb, h3⟩
theorem newly0_of {W0 w2 W : World} {X B ga pa gb pb : Nat} {ba bb : Addr} {s : Nat} (hX : w2.heap[X]? = some (.cells #[.slice (some ba) 0 0, .slice (some bb) 0 0] 81 (0, 0)))
    (hQ : w2.heap[B + 1]? = some (.cells #[.slice none 0 0, .slice none 0 0] 81 (0, 0))) (hb : Below W0.heap.size W0 w2) (h3 : W0.heap.size ≤ X) (hB1 : B + 1 < W0.heap.size)
    (hG : Below w2.heap.size w2 W) (r1' : W.ownsRow 0 5 1 (.slice (some ⟨ga, 0, none⟩) 1 pa) 1 [.int .u8 (s : Int)]) (r2' : W.ownsRow 0 3 1 (.slice (some ⟨gb, 0, none⟩) 1 pb) 1 [.int .i64 1]) (h4 : W0.heap.size ≤ ga) (h5 : W0.heap.size ≤ gb) :
    Newly W0 X B [] s ((W.setCell ⟨X, 0, none⟩ (.slice (some ⟨ga, 0, none⟩) 1 pa)).setCell ⟨X, 1, none⟩ (.slice (some ⟨gb, 0, none⟩) 1 pb)) := by
  have hXl := lt_of_heap hX
  have hXW := (hG.block X hXl).trans hX
  have hQW := (hG.block (B + 1) (lt_of_heap hQ)).trans hQ
  have e1 := heap_setCell_same W X 0 _ _ (.slice (some ⟨ga, 0, none⟩) 1 pa) hXW
  have e2 := heap_setCell_same _ X 1 _ _ (.slice (some ⟨gb, 0, none⟩) 1 pb) e1
  have hbW : Below W0.heap.size W0 W := bel_new hG hb
  refine ⟨ga, pa, gb, pb, by simpa using e2, set_far (set_far hQW (by show X ≠ B + 1; omega) _) (by show X ≠ B + 1; omega) _, ⟨?_, ?_⟩, bel_set _ h3 (bel_set _ h3 hbW), h4, h5⟩
  · exact own_set (own_set r1' hXW (by decide) 0 (.slice (some ⟨ga, 0, none⟩) 1 pa)) e1 (by decide) 1 (.slice (some ⟨gb, 0, none⟩) 1 pb)
  · exact own_set (own_set r2' hXW (by decide) 0 (.slice (some ⟨ga, 0, none⟩) 1 pa)) e1 (by decide) 1 (.slice (some ⟨gb, 0, none⟩) 1 pb)
set_option maxRecDepth 100000 in
set_option maxHeartbeats 4000000 in
theorem radd_first (w : World) (s : Nat) :
    Calls Try.prog 83 #[.agg #[.slice none 0 0, .slice none 0 0], .int .u8 (s : Int)] w fun x w' => ∃ v1' v2', x = .returned (.agg #[v1', v2']) ∧ RefT w' v1' v2' (addT [] s) ∧ Below w.heap.size w w' ∧ (∀ k, v1'.ownBlock = some k → w.heap.size ≤ k) ∧ (∀ k, v2'.ownBlock = some k → w.heap.size ≤ k) := by
  obtain ⟨i0, hi, hz0, hz1, hz2⟩ := info_parts info8
  obtain ⟨j0, hj, hy0, hy1, hy2⟩ := info_parts infoI
  go_enter Try.func83, Try.ntmps83
  go_upto_region 1 with (fail)
  obtain ⟨hq1, hq2, hsz, hb0⟩ := behind (w := w) (w3 := (w.alloc (.cells #[.slice none 0 0, .slice none 0 0] 81)).alloc (.cells #[.slice none 0 0, .slice none 0 0] 81)) (Below.refl _ _)
  have HB0 := Lib.hid hb0
  generalize (w.alloc (.cells #[.slice none 0 0, .slice none 0 0] 81)).alloc (.cells #[.slice none 0 0, .slice none 0 0] 81) = W0 at *
  have HQ2 := Lib.hid hq2
  obtain ⟨c1, c2, _, _, _⟩ := two hq1
  generalize hB : w.heap.size = B at *
  have HBB := Lib.hid hB
  clear hB hq1 hq2 hb0
  have hB0 : B < W0.heap.size := by omega
  go_cut [5] (fun p wc => ∃ X, p = .pointer (some ⟨X, 0, none⟩) ∧ Copied0 W0 X wc)
  case first =>
    as_aux_lemma =>
    -- BEGIN first0
    have S0 : Below W0.heap.size W0 W0.drew := ⟨rfl, rfl, rfl, Nat.le_refl _, fun _ _ => rfl⟩
    have d1 : W0.drew.cell? ⟨B, 0, none⟩ = some (.slice none 0 0) := c1
    have d2 : W0.drew.cell? ⟨B, 1, none⟩ = some (.slice none 0 0) := c2
    go_region_held3 (fun w' => Below W0.heap.size W0 w' ∧ w'.cell? ⟨B, 0, none⟩ = some (.slice none 0 0) ∧ w'.cell? ⟨B, 1, none⟩ = some (.slice none 0 0)) (first | exact ⟨S0, d1, d2⟩ | (refine held_of hB0 c1 c2 ?_; repeat (first | assumption | exact Below.refl _ _ | refine bel_drew ?_ | refine bel_alloc _ ?_ | (refine bel_set _ (by simp; omega) ?_) | (refine bel_set _ (by simp) ?_) | (exact And.left (by assumption))))) (first | (refine step_append_nil _ rfl (.tmp 8) (.tmp 10) 73 rfl 5 i0 Try.underlying73 hi ⟨_, 0, none⟩ rfl rfl ?_) | (refine step_append_nil _ rfl (.tmp 12) (.tmp 14) 35 rfl 3 j0 Try.underlying35 hj ⟨_, 0, none⟩ rfl rfl ?_))
    all_goals
      go_wp2_with fail
      go_meet
      refine ⟨_, rfl, ?_⟩
      exact copied0_of (by repeat (with_reducible first | exact blk_here (by simp) | refine blk_alloc ?_ | refine blk_drew ?_)) (by repeat (with_reducible first | exact Below.refl _ _ | refine bel_drew ?_ | refine bel_alloc _ ?_)) (by omega)
    -- END first0
  case rest =>
    obtain ⟨X, rfl, hcop⟩ := hcut
    obtain ⟨ba, bb, hX, hb, hXB⟩ := hcop
    have HCB := Lib.hid hb
    have HX := Lib.hid hX
    obtain ⟨x0, x1, xf0, xf1, hxl⟩ := two hX
    have hsl := Lib.hid (show W0.heap.size ≤ wc.heap.size from hb.size)
    have HQ3 := Lib.hid ((hb.block (B + 1) (by omega)).trans HQ2.out)
    clear hX hb c1 c2
    go_wp2_with fail
    refine (at_none s).mono ?_
    rintro y w2 ⟨rfl, hb2⟩
    have hX2 := (hb2.block X hxl).trans HX.out
    obtain ⟨x0, x1, xf0, xf1, hxl⟩ := two hX2
    have HX2 := Lib.hid hX2
    have HCB2 := Lib.hid (bel_new hb2 HCB.out)
    have HQ4 := Lib.hid ((hb2.block (B + 1) (by have := hsl.out; omega)).trans HQ3.out)
    have hsl2 := Lib.hid (show W0.heap.size ≤ w2.heap.size by have := hb2.size; have := hsl.out; omega)
    have HAD := Lib.hid (show addT [] s = [] ++ [(s, 1)] by unfold addT find; rfl)
    clear hb2 hX2 HX HCB HQ3 HQ2
    go_upto_region 4 with (fail)
    go_cut [22] (fun _ wx => Newly W0 X B [] s wx)
    case first =>
      as_aux_lemma =>
        -- BEGIN app0
        refine Tail.region_head (fun W => W.heap[X]? = some (.cells #[.slice (some ba) 0 0, .slice (some bb) 0 0] 81 (0, 0)) ∧ W.cell? ⟨X, 0, none⟩ = some (.slice (some ba) 0 0) ∧ W.cell? ⟨X, 1, none⟩ = some (.slice (some bb) 0 0)) 10 3 #[true, true, true, true, true, true, true, true, true, true, false, false, false] (by kernel_rfl) ⟨by kernel_rfl, by decide, by kernel_rfl, by kernel_rfl, by kernel_rfl⟩ (by kernel_rfl) (heldX (blk_drew HX2.out)) (fun ok hHeld => ?_)
        refine Tail.head_take ok (i := 0) (v := ?tv1) rfl rfl (by kernel_rfl) (by kernel_rfl) (by kernel_rfl) (fun _ _ _ h => h) (Or.inl ⟨by rfl, ?th1⟩) (by assumption) ?tr1
        case th1 => (intro w hSw; (try dsimp only at hSw); go_simp; (try with_reducible rfl))
        try simp only [Act.put]
        try simp only [List.setIfInBounds_toArray]
        try simp only [List.set]
        refine Tail.head_take ok (i := 1) (v := ?tv2) rfl rfl (by kernel_rfl) (by kernel_rfl) (by kernel_rfl) (fun _ _ _ h => h) (Or.inl ⟨by rfl, ?th2⟩) (by assumption) ?tr2
        case th2 => (intro w hSw; (try dsimp only at hSw); go_simp; (try with_reducible rfl))
        try simp only [Act.put]
        try simp only [List.setIfInBounds_toArray]
        try simp only [List.set]
        refine Tail.head_take ok (i := 2) (v := ?tv3) rfl rfl (by kernel_rfl) (by kernel_rfl) (by kernel_rfl) (fun _ _ _ h => h) (Or.inl ⟨by rfl, ?th3⟩) (by assumption) ?tr3
        case th3 => (intro w hSw; (try dsimp only at hSw); go_simp; (try with_reducible rfl))
        try simp only [Act.put]
        try simp only [List.setIfInBounds_toArray]
        try simp only [List.set]
        refine Tail.head_take ok (i := 5) (v := ?tv4) rfl rfl (by kernel_rfl) (by kernel_rfl) (by kernel_rfl) (fun _ _ _ h => h) (Or.inl ⟨by rfl, ?th4⟩) (by assumption) ?tr4
        case th4 => (intro w hSw; (try dsimp only at hSw); go_simp; (try with_reducible rfl))
        try simp only [Act.put]
        try simp only [List.setIfInBounds_toArray]
        try simp only [List.set]
        refine Tail.head_take ok (i := 6) (v := ?tv5) rfl rfl (by kernel_rfl) (by kernel_rfl) (by kernel_rfl) (fun _ _ _ h => h) (Or.inl ⟨by rfl, ?th5⟩) (by assumption) ?tr5
        case th5 => (intro w hSw; (try dsimp only at hSw); go_simp; (try with_reducible rfl))
        try simp only [Act.put]
        try simp only [List.setIfInBounds_toArray]
        try simp only [List.set]
        refine Tail.head_ready (rs := [3, 7]) (by kernel_rfl) (by simp) (by kernel_rfl) ?_
        refine Tail.AllHead.cons rfl (fun K hK => ?_) ?_
        focus
          go_simp
          refine hK.out _ _ (heldX (by repeat (with_reducible first | exact HX2.out | exact hXa | refine blk_drew ?_ | refine blk_alloc ?_))) (fun hHeld => ?_)
          clear hK K
          try simp only [Act.put]
          try simp only [List.setIfInBounds_toArray]
          try simp only [List.set]
          refine Tail.head_ready (rs := [4, 7]) (by kernel_rfl) (by simp) (by kernel_rfl) ?_
          refine Tail.AllHead.cons rfl (fun K hK => ?_) ?_
          focus
            refine step_append_fresh _ rfl (.tmp 23) (.tmp 25) 73 rfl 5 i0 (.int .u8 0) 1 Try.underlying73 hi hz0 hz1 hz2 rfl ba (by simp [Act.eval]) ⟨_, 0, none⟩ 1 1 [.int .u8 (s : Int)] (by first | (simp [Act.eval]; done) | (simp [Act.eval]; rfl)) rfl (new_cell (by repeat (with_reducible first | exact blk_here (by simp) | refine blk_drew ?_ | refine blk_alloc ?_))) (by decide) (by decide) (by decide) ?_
            intro ga pa wa hra hba hga
            have hBa : Below w2.heap.size w2 wa := bel_new hba (by repeat (with_reducible first | exact Below.refl _ _ | refine bel_drew ?_ | refine bel_alloc _ ?_))
            have hXa := (hBa.block X hxl).trans HX2.out
            have hga2 : W0.heap.size ≤ ga := by (try simp at hga); have := hsl2.out; omega
            refine hK.out _ _ (heldX hXa) (fun hHeld => ?_)
            clear hK K
            try simp only [Act.put]
            try simp only [List.setIfInBounds_toArray]
            try simp only [List.set]
            refine Tail.head_take ok (i := 9) (v := ?tv6) rfl rfl (by kernel_rfl) (by kernel_rfl) (by kernel_rfl) (fun _ _ _ h => h) (Or.inl ⟨by rfl, ?th6⟩) (by assumption) ?tr6
            case th6 => (intro w hSw; (try dsimp only at hSw); go_simp; (try with_reducible rfl))
            try simp only [Act.put]
            try simp only [List.setIfInBounds_toArray]
            try simp only [List.set]
            refine Tail.head_ready (rs := [7]) (by kernel_rfl) (by simp) (by kernel_rfl) ?_
            refine Tail.AllHead.cons rfl (fun K hK => ?_) Tail.AllHead.nil
            go_simp
            refine hK.out _ _ (heldX (by repeat (with_reducible first | exact HX2.out | exact hXa | refine blk_drew ?_ | refine blk_alloc ?_))) (fun hHeld => ?_)
            clear hK K
            try simp only [Act.put]
            try simp only [List.setIfInBounds_toArray]
            try simp only [List.set]
            refine Tail.head_ready (rs := [8]) (by kernel_rfl) (by simp) (by kernel_rfl) ?_
            refine Tail.AllHead.cons rfl (fun K hK => ?_) Tail.AllHead.nil
            refine step_append_fresh _ rfl (.tmp 28) (.tmp 29) 35 rfl 3 j0 (.int .i64 0) 8 Try.underlying35 hj hy0 hy1 hy2 rfl bb (by simp [Act.eval]) ⟨_, 0, none⟩ 1 1 [.int .i64 1] (by first | (simp [Act.eval]; done) | (simp [Act.eval]; rfl)) rfl (new_cell (by repeat (with_reducible first | exact blk_here (by simp) | refine blk_drew ?_ | refine blk_alloc ?_))) (by decide) (by decide) (by decide) ?_
            intro gb pb wb hrb hbb hgb
            have hBb : Below w2.heap.size w2 wb := bel_new hbb (by repeat (with_reducible first | exact Below.refl _ _ | exact hBa | refine bel_drew ?_ | refine bel_alloc _ ?_))
            have hXb := (hBb.block X hxl).trans HX2.out
            have hra2 : wb.ownsRow 0 5 1 (.slice (some ⟨ga, 0, none⟩) 1 pa) 1 [.int .u8 (s : Int)] := own_new hbb (by repeat (with_reducible first | exact hra | refine own_drew ?_ | refine own_alloc _ ?_))
            have hgb2 : W0.heap.size ≤ gb := by have h1 := hBa.size; (try simp at hgb); have := hsl2.out; omega
            obtain ⟨xb0, xb1, xfb0, xfb1, xlb⟩ := two hXb
            refine hK.out _ _ (heldX hXb) (fun hHeld => ?_)
            clear hK K
            try simp only [Act.put]
            try simp only [List.setIfInBounds_toArray]
            try simp only [List.set]
            refine Tail.head_done rfl ?_
            refine wpAny_ready (rs := [10]) (by kernel_rfl) (by simp) ?_
            refine AllReady.cons rfl (fun K hK => ?_) AllReady.nil
            go_simp
            refine hK _ _ ?_
            clear hK K
            try simp only [Act.put]
            try simp only [List.setIfInBounds_toArray]
            try simp only [List.set]
            refine wpAny_ready (rs := [11]) (by kernel_rfl) (by simp) ?_
            refine AllReady.cons rfl (fun K hK => ?_) AllReady.nil
            go_simp
            refine hK _ _ ?_
            clear hK K
            try simp only [Act.put]
            try simp only [List.setIfInBounds_toArray]
            try simp only [List.set]
            refine wpAny_ready (rs := [12]) (by kernel_rfl) (by simp) ?_
            refine AllReady.cons rfl (fun K hK => ?_) AllReady.nil
            go_simp
            refine hK _ _ ?_
            clear hK K
            try simp only [Act.put]
            try simp only [List.setIfInBounds_toArray]
            try simp only [List.set]
            refine wpAny_done (by kernel_rfl) ?_ _
            go_wp2_with fail
            go_meet
            exact newly0_of HX2.out HQ4.out HCB2.out hXB (by omega) hBb hra2 hrb hga2 hgb2
          refine Tail.AllHead.cons rfl (fun K hK => ?_) Tail.AllHead.nil
          focus
            go_simp
            refine hK.out _ _ (heldX (by repeat (with_reducible first | exact HX2.out | exact hXa | refine blk_drew ?_ | refine blk_alloc ?_))) (fun hHeld => ?_)
            clear hK K
            try simp only [Act.put]
            try simp only [List.setIfInBounds_toArray]
            try simp only [List.set]
            refine Tail.head_ready (rs := [4]) (by kernel_rfl) (by simp) (by kernel_rfl) ?_
            refine Tail.AllHead.cons rfl (fun K hK => ?_) Tail.AllHead.nil
            refine step_append_fresh _ rfl (.tmp 23) (.tmp 25) 73 rfl 5 i0 (.int .u8 0) 1 Try.underlying73 hi hz0 hz1 hz2 rfl ba (by simp [Act.eval]) ⟨_, 0, none⟩ 1 1 [.int .u8 (s : Int)] (by first | (simp [Act.eval]; done) | (simp [Act.eval]; rfl)) rfl (new_cell (by repeat (with_reducible first | exact blk_here (by simp) | refine blk_drew ?_ | refine blk_alloc ?_))) (by decide) (by decide) (by decide) ?_
            intro ga pa wa hra hba hga
            have hBa : Below w2.heap.size w2 wa := bel_new hba (by repeat (with_reducible first | exact Below.refl _ _ | refine bel_drew ?_ | refine bel_alloc _ ?_))
            have hXa := (hBa.block X hxl).trans HX2.out
            have hga2 : W0.heap.size ≤ ga := by (try simp at hga); have := hsl2.out; omega
            have hNa : wa.heap[w2.heap.size + 1]? = some (.cells #[.int .i64 1] 3 (0, 0)) := blk_new hba (by repeat (with_reducible first | exact blk_here (by simp) | refine blk_drew ?_ | refine blk_alloc ?_))
            refine hK.out _ _ (heldX hXa) (fun hHeld => ?_)
            clear hK K
            try simp only [Act.put]
            try simp only [List.setIfInBounds_toArray]
            try simp only [List.set]
            refine Tail.head_take ok (i := 9) (v := ?tv7) rfl rfl (by kernel_rfl) (by kernel_rfl) (by kernel_rfl) (fun _ _ _ h => h) (Or.inl ⟨by rfl, ?th7⟩) (by assumption) ?tr7
            case th7 => (intro w hSw; (try dsimp only at hSw); go_simp; (try with_reducible rfl))
            try simp only [Act.put]
            try simp only [List.setIfInBounds_toArray]
            try simp only [List.set]
            refine Tail.head_ready (rs := [8]) (by kernel_rfl) (by simp) (by kernel_rfl) ?_
            refine Tail.AllHead.cons rfl (fun K hK => ?_) Tail.AllHead.nil
            refine step_append_fresh _ rfl (.tmp 28) (.tmp 29) 35 rfl 3 j0 (.int .i64 0) 8 Try.underlying35 hj hy0 hy1 hy2 rfl bb (by simp [Act.eval]) ⟨_, 0, none⟩ 1 1 [.int .i64 1] (by first | (simp [Act.eval]; done) | (simp [Act.eval]; rfl)) rfl (new_cell hNa) (by decide) (by decide) (by decide) ?_
            intro gb pb wb hrb hbb hgb
            have hBb : Below w2.heap.size w2 wb := bel_new hbb (by repeat (with_reducible first | exact Below.refl _ _ | exact hBa | refine bel_drew ?_ | refine bel_alloc _ ?_))
            have hXb := (hBb.block X hxl).trans HX2.out
            have hra2 : wb.ownsRow 0 5 1 (.slice (some ⟨ga, 0, none⟩) 1 pa) 1 [.int .u8 (s : Int)] := own_new hbb (by repeat (with_reducible first | exact hra | refine own_drew ?_ | refine own_alloc _ ?_))
            have hgb2 : W0.heap.size ≤ gb := by have h1 := hBa.size; (try simp at hgb); have := hsl2.out; omega
            obtain ⟨xb0, xb1, xfb0, xfb1, xlb⟩ := two hXb
            refine hK.out _ _ (heldX hXb) (fun hHeld => ?_)
            clear hK K
            try simp only [Act.put]
            try simp only [List.setIfInBounds_toArray]
            try simp only [List.set]
            refine Tail.head_done rfl ?_
            refine wpAny_ready (rs := [10]) (by kernel_rfl) (by simp) ?_
            refine AllReady.cons rfl (fun K hK => ?_) AllReady.nil
            go_simp
            refine hK _ _ ?_
            clear hK K
            try simp only [Act.put]
            try simp only [List.setIfInBounds_toArray]
            try simp only [List.set]
            refine wpAny_ready (rs := [11]) (by kernel_rfl) (by simp) ?_
            refine AllReady.cons rfl (fun K hK => ?_) AllReady.nil
            go_simp
            refine hK _ _ ?_
            clear hK K
            try simp only [Act.put]
            try simp only [List.setIfInBounds_toArray]
            try simp only [List.set]
            refine wpAny_ready (rs := [12]) (by kernel_rfl) (by simp) ?_
            refine AllReady.cons rfl (fun K hK => ?_) AllReady.nil
            go_simp
            refine hK _ _ ?_
            clear hK K
            try simp only [Act.put]
            try simp only [List.setIfInBounds_toArray]
            try simp only [List.set]
            refine wpAny_done (by kernel_rfl) ?_ _
            go_wp2_with fail
            go_meet
            exact newly0_of HX2.out HQ4.out HCB2.out hXB (by omega) hBb hra2 hrb hga2 hgb2
        refine Tail.AllHead.cons rfl (fun K hK => ?_) Tail.AllHead.nil
        focus
          go_simp
          refine hK.out _ _ (heldX (by repeat (with_reducible first | exact HX2.out | exact hXa | refine blk_drew ?_ | refine blk_alloc ?_))) (fun hHeld => ?_)
          clear hK K
          try simp only [Act.put]
          try simp only [List.setIfInBounds_toArray]
          try simp only [List.set]
          refine Tail.head_ready (rs := [3]) (by kernel_rfl) (by simp) (by kernel_rfl) ?_
          refine Tail.AllHead.cons rfl (fun K hK => ?_) Tail.AllHead.nil
          go_simp
          refine hK.out _ _ (heldX (by repeat (with_reducible first | exact HX2.out | exact hXa | refine blk_drew ?_ | refine blk_alloc ?_))) (fun hHeld => ?_)
          clear hK K
          try simp only [Act.put]
          try simp only [List.setIfInBounds_toArray]
          try simp only [List.set]
          refine Tail.head_ready (rs := [4]) (by kernel_rfl) (by simp) (by kernel_rfl) ?_
          refine Tail.AllHead.cons rfl (fun K hK => ?_) Tail.AllHead.nil
          refine step_append_fresh _ rfl (.tmp 23) (.tmp 25) 73 rfl 5 i0 (.int .u8 0) 1 Try.underlying73 hi hz0 hz1 hz2 rfl ba (by simp [Act.eval]) ⟨_, 0, none⟩ 1 1 [.int .u8 (s : Int)] (by first | (simp [Act.eval]; done) | (simp [Act.eval]; rfl)) rfl (new_cell (by repeat (with_reducible first | exact blk_here (by simp) | refine blk_drew ?_ | refine blk_alloc ?_))) (by decide) (by decide) (by decide) ?_
          intro ga pa wa hra hba hga
          have hBa : Below w2.heap.size w2 wa := bel_new hba (by repeat (with_reducible first | exact Below.refl _ _ | refine bel_drew ?_ | refine bel_alloc _ ?_))
          have hXa := (hBa.block X hxl).trans HX2.out
          have hga2 : W0.heap.size ≤ ga := by (try simp at hga); have := hsl2.out; omega
          have hNa : wa.heap[w2.heap.size]? = some (.cells #[.int .i64 1] 3 (0, 0)) := blk_new hba (by repeat (with_reducible first | exact blk_here (by simp) | refine blk_drew ?_ | refine blk_alloc ?_))
          refine hK.out _ _ (heldX hXa) (fun hHeld => ?_)
          clear hK K
          try simp only [Act.put]
          try simp only [List.setIfInBounds_toArray]
          try simp only [List.set]
          refine Tail.head_take ok (i := 9) (v := ?tv8) rfl rfl (by kernel_rfl) (by kernel_rfl) (by kernel_rfl) (fun _ _ _ h => h) (Or.inl ⟨by rfl, ?th8⟩) (by assumption) ?tr8
          case th8 => (intro w hSw; (try dsimp only at hSw); go_simp; (try with_reducible rfl))
          try simp only [Act.put]
          try simp only [List.setIfInBounds_toArray]
          try simp only [List.set]
          refine Tail.head_ready (rs := [8]) (by kernel_rfl) (by simp) (by kernel_rfl) ?_
          refine Tail.AllHead.cons rfl (fun K hK => ?_) Tail.AllHead.nil
          refine step_append_fresh _ rfl (.tmp 28) (.tmp 29) 35 rfl 3 j0 (.int .i64 0) 8 Try.underlying35 hj hy0 hy1 hy2 rfl bb (by simp [Act.eval]) ⟨_, 0, none⟩ 1 1 [.int .i64 1] (by first | (simp [Act.eval]; done) | (simp [Act.eval]; rfl)) rfl (new_cell hNa) (by decide) (by decide) (by decide) ?_
          intro gb pb wb hrb hbb hgb
          have hBb : Below w2.heap.size w2 wb := bel_new hbb (by repeat (with_reducible first | exact Below.refl _ _ | exact hBa | refine bel_drew ?_ | refine bel_alloc _ ?_))
          have hXb := (hBb.block X hxl).trans HX2.out
          have hra2 : wb.ownsRow 0 5 1 (.slice (some ⟨ga, 0, none⟩) 1 pa) 1 [.int .u8 (s : Int)] := own_new hbb (by repeat (with_reducible first | exact hra | refine own_drew ?_ | refine own_alloc _ ?_))
          have hgb2 : W0.heap.size ≤ gb := by have h1 := hBa.size; (try simp at hgb); have := hsl2.out; omega
          obtain ⟨xb0, xb1, xfb0, xfb1, xlb⟩ := two hXb
          refine hK.out _ _ (heldX hXb) (fun hHeld => ?_)
          clear hK K
          try simp only [Act.put]
          try simp only [List.setIfInBounds_toArray]
          try simp only [List.set]
          refine Tail.head_done rfl ?_
          refine wpAny_ready (rs := [10]) (by kernel_rfl) (by simp) ?_
          refine AllReady.cons rfl (fun K hK => ?_) AllReady.nil
          go_simp
          refine hK _ _ ?_
          clear hK K
          try simp only [Act.put]
          try simp only [List.setIfInBounds_toArray]
          try simp only [List.set]
          refine wpAny_ready (rs := [11]) (by kernel_rfl) (by simp) ?_
          refine AllReady.cons rfl (fun K hK => ?_) AllReady.nil
          go_simp
          refine hK _ _ ?_
          clear hK K
          try simp only [Act.put]
          try simp only [List.setIfInBounds_toArray]
          try simp only [List.set]
          refine wpAny_ready (rs := [12]) (by kernel_rfl) (by simp) ?_
          refine AllReady.cons rfl (fun K hK => ?_) AllReady.nil
          go_simp
          refine hK _ _ ?_
          clear hK K
          try simp only [Act.put]
          try simp only [List.setIfInBounds_toArray]
          try simp only [List.set]
          refine wpAny_done (by kernel_rfl) ?_ _
          go_wp2_with fail
          go_meet
          exact newly0_of HX2.out HQ4.out HCB2.out hXB (by omega) hBb hra2 hrb hga2 hgb2
        -- END app0
    case rest =>
      -- BEGIN appr0
      obtain ⟨ga, pa, gb, pb, hX3, hQ3, hR3, hb3, hga, hgb⟩ := hcut
      have HE2 := Lib.hid (ends (u1 := .slice (some ⟨ga, 0, none⟩) 1 pa) (u2 := .slice (some ⟨gb, 0, none⟩) 1 pb) hR3 hQ3 (HB0.out.trans (hb3.mono (by omega))))
      clear x0 x1 xf0 xf1
      obtain ⟨x0, x1, xf0, xf1, hxl3⟩ := two hX3
      obtain ⟨y0, y1, yf0, yf1, hyl3⟩ := two hQ3
      clear hX3 hQ3 hR3 hb3
      go_wp2_with fail
      refine bodyPost_ret (v := .agg #[.slice (some ⟨ga, 0, none⟩) 1 pa, .slice (some ⟨gb, 0, none⟩) 1 pb]) ?_ rfl ?_
      · simp [results, Try.results83, go_sem, y0, y1]
      · exact ⟨_, _, rfl, HE2.out.1.again HAD.out.symm, by rw [HBB.out]; exact HE2.out.2, fun j hj => by simp [Value.ownBlock] at hj; have := HBB.out; omega, fun j hj => by simp [Value.ownBlock] at hj; have := HBB.out; omega⟩
      -- END appr0
end Go.Proofs.Yteacmcckhjabmaa.Fq
