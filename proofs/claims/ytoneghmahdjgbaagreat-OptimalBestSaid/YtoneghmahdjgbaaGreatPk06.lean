/-
  Package chain: the contracts of longer and Next.
  Package chain: the contract of Next.
  Plain mathematics of layer 7: what is found rises.
-/
import Derived.Test.YtoneghmahdjgbaaGreatPk05
import Derived.Deep.AppendLies
section
namespace Go.Proofs.YtoneghmahdjgbaaGreat.Ch
open Go.RowKit Go.Maps
open Mt
/-- The cells of what was found. -/
def flatF (l : List (Nat × Nat)) : List Value := l.flatMap fun x => [.int .i64 (x.1 : Int), .int .i64 (x.2 : Int)]
theorem flatF_append (l k : List (Nat × Nat)) : flatF (l ++ k) = flatF l ++ flatF k := by simp [flatF]
theorem flatF_at : ∀ (l : List (Nat × Nat)) (i : Nat) (h : i < l.length), (flatF l)[i * 2]? = some (.int .i64 (l[i].1 : Int)) ∧ (flatF l)[i * 2 + 1]? = some (.int .i64 (l[i].2 : Int))
  | [], i, h => by simp at h
  | x :: l, 0, _ => ⟨rfl, rfl⟩
  | x :: l, i + 1, h => by
    have := flatF_at l i (by simpa using h)
    rw [show (i + 1) * 2 = i * 2 + 1 + 1 from by omega]
    exact this
/-- A slice that owns just what was found; its block, where it has one, is new since w. -/
structure Founds (t : TypeId) (w0 w : World) (v : Value) (l : List (Nat × Nat)) : Prop where
  row : w.ownsRow 0 t 2 v l.length (flatF l)
  new : ∀ k, v.ownBlock = some k → w0.heap.size ≤ k
theorem Founds.nil (t : TypeId) (w0 w : World) : Founds t w0 w (.slice none 0 0) [] := ⟨World.ownsRow_nil _ _ _ _, by simp [Value.ownBlock]⟩
theorem Founds.below {t : TypeId} {w0 w w' : World} {v : Value} {l : List (Nat × Nat)} (h : Founds t w0 w v l) (hb : Below w.heap.size w w') : Founds t w0 w' v l := by
  refine ⟨ownsRow_frame h.row (Frame.of_below_size hb) (fun _ _ h => h), h.new⟩
theorem Founds.form {t : TypeId} {w0 w : World} {v : Value} {l : List (Nat × Nat)} (h : Founds t w0 w v l) : (v = .slice none 0 0 ∧ l = []) ∨ ∃ g cap, v = .slice (some ⟨g, 0, none⟩) l.length cap ∧ w0.heap.size ≤ g ∧ g < w.heap.size := by
  rcases h.row.2 with ⟨h1, h2⟩ | ⟨g, cap, cur, rfl, _, hg, _⟩
  · exact .inl ⟨h1, List.eq_nil_of_length_eq_zero h2⟩
  · exact .inr ⟨g, cap, rfl, h.new g rfl, lt_of_heap hg⟩
theorem Founds.slice {t : TypeId} {w0 w : World} {v : Value} {l : List (Nat × Nat)} (h : Founds t w0 w v l) : ∃ A cap, v = .slice A l.length cap := by
  rcases h.form with ⟨rfl, rfl⟩ | ⟨g, cap, rfl, _⟩
  · exact ⟨none, 0, rfl⟩
  · exact ⟨_, cap, rfl⟩
theorem Founds.cell {t : TypeId} {w0 w : World} {g n cap : Nat} {l : List (Nat × Nat)} (h : Founds t w0 w (.slice (some ⟨g, 0, none⟩) n cap) l) (i : Nat) (hi : i < l.length) : w.cell? ⟨g, i * 2, none⟩ = some (.int .i64 (l[i].1 : Int)) ∧ w.cell? ⟨g, i * 2 + 1, none⟩ = some (.int .i64 (l[i].2 : Int)) := by
  have hn : n = l.length := by
    rcases h.row.2 with ⟨e1, _⟩ | ⟨g', cap', cur, e1, _⟩
    · simp at e1
    · simp only [Value.slice.injEq] at e1; exact e1.2.1
  subst hn
  obtain ⟨a1, a2⟩ := flatF_at l i hi
  rw [World.ownsRow.cellAt h.row (i * 2) (by omega), World.ownsRow.cellAt h.row (i * 2 + 1) (by omega)]
  exact ⟨a1, a2⟩
theorem infoF : (Tryz.prog.info? 93).map (fun i => (i.zero, i.size, i.bytes)) = some (some (.agg #[.int .i64 0, .int .i64 0]), 2, 16) := by kernel_rfl
theorem fd_new (w : World) (a b : Value) (t : TypeId) : ∀ j u, [a, b][j]? = some u → (w.alloc (.cells #[a, b] t)).cell? ((⟨w.heap.size, 0, none⟩ : Addr).add j) = some u := World.news_of_block (heap_alloc_new _ _)
theorem fd_one (a b : Int) : ∀ u ∈ [Value.int .i64 a, .int .i64 b], u.oneCell' = true := by
  intro u hu
  simp at hu
  rcases hu with rfl | rfl <;> rfl
theorem Founds.app {t : TypeId} {w0 w w' : World} {v v' : Value} {l : List (Nat × Nat)} {o : Obj} {n d : Nat} (h : Founds t w0 w v l) (hb : Below w0.heap.size w0 w)
    (hown : w'.ownsRow 0 t 2 v' (l.length + 1) (flatF l ++ [.int .i64 (n : Int), .int .i64 (d : Int)])) (hg : (w.alloc o).grownBy w' v.ownBlock) (hm : Moved (w.alloc o) v v') : Founds t w0 w' v' (l ++ [(n, d)]) ∧ Below w0.heap.size w0 w' := by
  refine ⟨⟨?_, fun k hk => ?_⟩, hb.trans ((((Frame.refl (fun k => v.ownBlock = some k) w).alloc o).grown hg (fun k hk => .inl hk)).below hb.size (fun k hk ho => by have := h.new k ho; omega))⟩
  · rw [List.length_append, flatF_append]
    exact hown
  · rcases hm with e | e
    · rw [e] at hk; exact h.new k hk
    · have h1 := e k hk
      rw [World.size_alloc] at h1
      have := hb.size
      omega
theorem devL_go {b : Nat → Nat} {p most left longest q : Nat} {window : Int} (h2 : ¬ window < (p : Int) - (q : Int)) (h3 : longest ≠ most) : devL b p most window (left + 1) (q : Int) longest =
    if longest < mat b p q 0 most then (mat b p q 0 most, p - q) :: devL b p most window left (prevF b q q) (mat b p q 0 most) else devL b p most window left (prevF b q q) longest := by
  rw [devL, if_neg (by rintro (h | h | h); omega; exact h2 h; exact h3 h), Int.toNat_natCast]
/-- Within the loop of longer. -/
structure LongAt (w0 : World) (b : Nat → Nat) (p most : Nat) (window : Int) (full : List (Nat × Nat)) (left : Nat) (q : Int) (longest : Nat) (v : Value) (w : World) (l : List (Nat × Nat)) : Prop where
  founds : Founds 93 w0 w v l
  below : Below w0.heap.size w0 w
  eq : l ++ devL b p most window left q longest = full
  len : l.length ≤ longest
  le : longest ≤ most
theorem LongAt.news {w0 w w' : World} {b : Nat → Nat} {p most left longest : Nat} {window q : Int} {full l : List (Nat × Nat)} {v : Value} (h : LongAt w0 b p most window full left q longest v w l) (hb : Below w.heap.size w w') : LongAt w0 b p most window full left q longest v w' l :=
  ⟨h.founds.below hb, h.below.trans (hb.mono h.below.size), h.eq, h.len, h.le⟩
/-- What longer hands back. -/
def FoundTo (w : World) (l : List (Nat × Nat)) (x : Ending) (w' : World) : Prop := ∃ v, x = .returned v ∧ Founds 93 w w' v l ∧ Below w.heap.size w w'
section
variable {w w' : World} {O O' : Paint} {c a : Nat} {s : ByteArray} {window cut : Int} {p r B : Nat} {v : Value} {xs : List Int} {D : Dm}
set_option maxRecDepth 100000 in
set_option maxHeartbeats 4000000 in
theorem longer_any (h : FinAt w O c a s window cut p (p + 1) B v xs D) (hp : p + 3 ≤ s.size) (_hw0 : -9223372036854775808 ≤ window) (_hw1 : window ≤ 9223372036854775807) (hc1 : cut ≤ 9223372036854775807) :
    Calls Tryz.prog 68 #[.pointer (some ⟨a, 0, none⟩)] w (FoundTo w (devL (bt s) p (min (s.size - p) 273) window cut.toNat (prevF (bt s) p p) 0)) := by
  have hxl := h.len
  obtain ⟨g, cap, hv, hcap, hcm, hOg, hgl⟩ := h.held.form (by rw [List.length_map]; omega)
  rw [List.length_map] at hv hcap
  subst hv
  obtain ⟨h0, h1, h2, h3, h4, h5⟩ := h.cells
  have hsm := h.small
  have hps := h.place
  have hal := h.blk.lt
  have HF := Lib.hid h
  have hgc : ∀ q, q ≤ p → w.cell? ⟨g, q, none⟩ = some (.int .i64 (prevF (bt s) q q)) := fun q hq => h.held.cell (by rw [List.getElem?_map, h.prev q (by omega) (by omega)]; rfl)
  have HGC := Lib.hid hgc
  have hgp := hgc p (Nat.le_refl _)
  have HLF := Lib.hid (left_raw h0 h3 hps hsm)
  obtain ⟨i0, hi, hz0, hz1, hz2⟩ := info_parts infoF
  have HI := Lib.hid hi
  have HZ0 := Lib.hid hz0
  have HZ1 := Lib.hid hz1
  have HZ2 := Lib.hid hz2
  clear h hcm hOg hgc hi hz0 hz1 hz2
  rw [hxl] at hcap
  go_enter Tryz.func68, Tryz.ntmps68
  go_wp2_with fail
  refine HLF.out.mono ?_
  rintro x w1 ⟨rfl, n1, rfl⟩
  have hmin : (if (273 : Int) < (s.size : Int) - (p : Int) then (273 : Int) else (s.size : Int) - (p : Int)) = ((min (s.size - p) 273 : Nat) : Int) := by split <;> omega
  have HMIN := Lib.hid hmin
  clear hmin
  have hpx : p < s.size := by omega
  have hp0 : (0 : Int) ≤ (p : Int) := by omega
  have hpx' : (p : Int) < (s.size : Int) := by omega
  have g0 : (w.drewN n1).cell? ⟨a, 0, none⟩ = some (.string s) := h0
  have g1 : (w.drewN n1).cell? ⟨a, 1, none⟩ = some (.int .i64 window) := h1
  have g2 : (w.drewN n1).cell? ⟨a, 2, none⟩ = some (.int .i64 cut) := h2
  have g3 : (w.drewN n1).cell? ⟨a, 3, none⟩ = some (.int .i64 (p : Int)) := h3
  have g5 : (w.drewN n1).cell? ⟨a, 5, none⟩ = some (.slice (some ⟨g, 0, none⟩) xs.length cap) := h5
  have ggp : (w.drewN n1).cell? ⟨g, p, none⟩ = some (.int .i64 (prevF (bt s) p p)) := hgp
  rw [hxl] at g5 h5
  have HB1 : Hid (Below w.heap.size w (w.drewN n1)) := Lib.hid (below_drewN (Below.refl _ _) n1)
  clear h0 h1 h2 h3 h4 h5 hgp HLF
  generalize w.drewN n1 = W1 at *
  go_upto_region 3 with (fail)
  rw [HMIN.out]
  clear HMIN
  have hmost : min (s.size - p) 273 ≤ s.size - p ∧ min (s.size - p) 273 ≤ 273 := by omega
  generalize min (s.size - p) 273 = most at *
  obtain ⟨hm1, hm2⟩ := hmost
  go_quiet (fail)
  have HB2 : Hid (Below w.heap.size w (W1.drewN nq)) := Lib.hid (below_drewN HB1.out nq)
  have g2' : (W1.drewN nq).cell? ⟨a, 2, none⟩ = some (.int .i64 cut) := g2
  clear g0 g1 g2 g3 g5 ggp HB1
  generalize W1.drewN nq = W2 at *
  have hq0 := prevF_lt (bt s) p p
  have HL0 : Hid (LongAt w (bt s) p most window (devL (bt s) p most window cut.toNat (prevF (bt s) p p) 0) (cut.toNat - 0) (prevF (bt s) p p) 0 (.slice none 0 0) W2 []) := Lib.hid ⟨Founds.nil _ _ _, HB2.out, rfl, Nat.le_refl _, Nat.zero_le _⟩
  generalize devL (bt s) p most window cut.toNat (prevF (bt s) p p) 0 = full at *
  generalize prevF (bt s) p p = q0 at *
  go_wp2_with fail
  go_loopw [3, 4, 6, 25] (fun v3 v4 v6 v25 wr => ∃ (k longest : Nat) (q : Int) (l0 : List (Nat × Nat)), (k : Int) ≤ max 0 cut ∧ v25 = .int .i64 k ∧ v4 = .int .i64 longest ∧ v6 = .int .i64 q ∧ -1 ≤ q ∧ q < p ∧ LongAt w (bt s) p most window full (cut.toNat - k) q longest v3 wr l0) (fun _ _ _ v25 _ => cut.toNat - (intOf v25).toNat)
  case atStart => exact ⟨0, 0, q0, [], by omega, rfl, rfl, rfl, hq0.2, hq0.1, HL0.out⟩
  case round =>
    obtain ⟨k, longest, q, l0, hk, rfl, rfl, rfl, hq1, hq2, hL⟩ := hrel
    clear HL0 HB2 hq0 g2'
    have HL := Lib.hid hL
    have hlm := hL.le
    have hll := hL.len
    have HB := Lib.hid hL.below
    clear hL
    have b0 : wr.cell? ⟨a, 0, none⟩ = some (.string s) := (HB.out.cell (p := ⟨a, 0, none⟩) hal).trans HF.out.cells.1
    have b1 : wr.cell? ⟨a, 1, none⟩ = some (.int .i64 window) := (HB.out.cell (p := ⟨a, 1, none⟩) hal).trans HF.out.cells.2.1
    have b2 : wr.cell? ⟨a, 2, none⟩ = some (.int .i64 cut) := (HB.out.cell (p := ⟨a, 2, none⟩) hal).trans HF.out.cells.2.2.1
    have b3 : wr.cell? ⟨a, 3, none⟩ = some (.int .i64 (p : Int)) := (HB.out.cell (p := ⟨a, 3, none⟩) hal).trans HF.out.cells.2.2.2.1
    have b5 : wr.cell? ⟨a, 5, none⟩ = some (.slice (some ⟨g, 0, none⟩) s.size cap) := (HB.out.cell (p := ⟨a, 5, none⟩) hal).trans (by rw [← hxl]; exact HF.out.cells.2.2.2.2.2)
    by_cases hlt : (k : Int) < cut
    · obtain ⟨left, hleft⟩ : ∃ left, cut.toNat - k = left + 1 := ⟨cut.toNat - k - 1, by omega⟩
      have hdl : decide ((k : Int) < cut) = true := by simpa using hlt
      have hleft2 : cut.toNat - (k + 1) = left := by omega
      rw [hleft] at HL
      by_cases hc1 : q = -1
      · as_aux_lemma =>
        -- BEGIN b1
        subst hc1
        have HE := Lib.hid (show l0 = full by have := HL.out.eq; rw [devL_none, List.append_nil] at this; exact this)
        have HFO := Lib.hid HL.out.founds
        clear HL
        go_wp2_with fail
        go_quiet (fail)
        go_wp2_with fail
        go_ret
        exact ⟨_, rfl, by rw [← HE.out]; exact HFO.out.below (below_drewN (Below.refl _ _) _), below_drewN HB.out _⟩
        -- END b1
      · obtain ⟨qn, rfl⟩ : ∃ qn : Nat, q = qn := ⟨q.toNat, by omega⟩
        have hd1 : ((qn : Int) == -1) = false := by rw [beq_eq_false_iff_ne]; omega
        have e4 : IntKind.i64.wrap ((p : Int) - (qn : Int)) = (p : Int) - (qn : Int) := IntWalk.i64_in _ (by omega)
        clear hc1
        by_cases hc2 : window < (p : Int) - (qn : Int)
        · as_aux_lemma =>
          -- BEGIN b2
          have HE := Lib.hid (show l0 = full by have := HL.out.eq; rw [devL_far _ _ _ _ _ _ hc2, List.append_nil] at this; exact this)
          have HFO := Lib.hid HL.out.founds
          have hd2 : decide (window < (p : Int) - (qn : Int)) = true := by simpa using hc2
          clear HL
          go_wp2_with fail
          go_quiet (fail)
          clear e4
          go_wp2_with fail
          go_ret
          exact ⟨_, rfl, by rw [← HE.out]; exact HFO.out.below (below_drewN (Below.refl _ _) _), below_drewN HB.out _⟩
          -- END b2
        · have hd2 : decide (window < (p : Int) - (qn : Int)) = false := by simpa using hc2
          by_cases hc3 : longest = most
          · as_aux_lemma =>
            -- BEGIN b3
            have HE := Lib.hid (show l0 = full by
              have := HL.out.eq
              rw [devL, if_pos (.inr (.inr hc3)), List.append_nil] at this
              exact this)
            have HFO := Lib.hid HL.out.founds
            have hd3 : ((longest : Int) == (most : Int)) = true := by rw [beq_iff_eq]; omega
            clear HL
            go_wp2_with fail
            go_quiet (fail)
            clear e4
            go_wp2_with fail
            go_ret
            exact ⟨_, rfl, by rw [← HE.out]; exact HFO.out.below (below_drewN (Below.refl _ _) _), below_drewN HB.out _⟩
            -- END b3
          · have hd3 : ((longest : Int) == (most : Int)) = false := by rw [beq_eq_false_iff_ne]; omega
            have hgo := HL.out.eq
            rw [devL_go hc2 hc3] at hgo
            have HGO := Lib.hid hgo
            clear hgo hc2
            have hpk : p + longest < s.size := by omega
            have hqk : qn + longest < s.size := by omega
            have e1 : (0 : Int) ≤ (p : Int) + (longest : Int) := by omega
            have e2 : (p : Int) + (longest : Int) < (s.size : Int) := by omega
            have e3 : ((p : Int) + (longest : Int)).toNat = p + longest := by omega
            have e5 : IntKind.i64.wrap ((p : Int) + (longest : Int)) = (p : Int) + (longest : Int) := IntWalk.i64_in _ (by omega)
            have d1 : (0 : Int) ≤ (qn : Int) + (longest : Int) := by omega
            have d2 : (qn : Int) + (longest : Int) < (s.size : Int) := by omega
            have d3 : ((qn : Int) + (longest : Int)).toNat = qn + longest := by omega
            have d4 : IntKind.i64.wrap ((qn : Int) + (longest : Int)) = (qn : Int) + (longest : Int) := IntWalk.i64_in _ (by omega)
            obtain ⟨eqB, heqB⟩ : ∃ eqB : Bool, eqB = ((s[qn + longest].toNat : Int) == (s[p + longest].toNat : Int)) := ⟨_, rfl⟩
            have HEQ := Lib.hid heqB
            have heqB2 := heqB.symm
            clear heqB
            go_wp2_with fail
            go_quiet (fail)
            clear e4
            revert nq
            intro n6
            go_wp2_with fail
            go_quiet (fail)
            clear e5 d4 heqB2
            go_upto_if 66 with (fail)
            have hb3 : Below wr.heap.size wr ((wr.drewN n6).drewN nq) := below_drewN (below_drewN (Below.refl _ _) n6) nq
            have HL3 := Lib.hid (HL.out.news hb3)
            have c0 : ((wr.drewN n6).drewN nq).cell? ⟨a, 0, none⟩ = some (.string s) := b0
            have c3 : ((wr.drewN n6).drewN nq).cell? ⟨a, 3, none⟩ = some (.int .i64 (p : Int)) := b3
            have HGX := Lib.hid (HGC.out qn (by omega))
            have hF5 := HF.out.cells.2.2.2.2.2
            rw [hxl] at hF5
            have HF5 := Lib.hid hF5
            clear HL HB hb3 b0 b1 b2 b3 b5 hF5
            generalize ((wr.drewN n6).drewN nq) = W3 at *
            have HMT := Lib.hid (matching_raw (q := qn) (most := most) c0 c3 (by omega) (by omega) hsm)
            have hml := mat_le (bt s) p qn most 0
            rw [Nat.zero_add] at hml
            have hst : eqB = false → mat (bt s) p qn 0 most ≤ longest := fun h => mat_stop (bt s) p qn most 0 longest (Nat.zero_le _) (by omega) (by
              rw [h] at HEQ
              have := HEQ.out.symm
              rw [beq_eq_false_iff_ne, bt_at, bt_at] at this
              omega)
            have HST := Lib.hid hst
            clear hst HEQ
            generalize mat (bt s) p qn 0 most = n at *
            go_cut [3, 4] (fun v3' v4' wc => ∃ (longest' : Nat) (l1 : List (Nat × Nat)), v4' = .int .i64 longest' ∧ LongAt w (bt s) p most window full left (prevF (bt s) qn qn) longest' v3' wc l1)
            case first =>
              have HROW := Lib.hid HL3.out.founds.row
              by_cases hn : longest < n
              · have HGO2 := Lib.hid (show l0 ++ (n, p - qn) :: devL (bt s) p most window left (prevF (bt s) qn qn) n = full by rw [← HGO.out, if_pos hn])
                have he : eqB = true := by
                  cases h : eqB with
                  | true => rfl
                  | false => have := HST.out h; omega
                subst he
                as_aux_lemma =>
                -- BEGIN app
                have hn1 : l0.length + 1 ≤ maxLen := by unfold maxLen; omega
                have hn2 : (l0.length + 1) * 16 ≤ 140737488355328 := by omega
                have e6 : IntKind.i64.wrap ((p : Int) - (qn : Int)) = (p : Int) - (qn : Int) := IntWalk.i64_in _ (by omega)
                have e7 : (p : Int) - (qn : Int) = ((p - qn : Nat) : Int) := by omega
                have E7 := Lib.hid e7
                clear e7 HGO HST
                go_wp2_with fail
                refine HMT.out.mono ?_
                rintro x w4 ⟨rfl, n4, rfl⟩
                have HB4 : Hid (Below W3.heap.size W3 (W3.drewN n4)) := Lib.hid (below_drewN (Below.refl _ _) n4)
                have HL4 := Lib.hid (HL3.out.news HB4.out)
                have c3' : (W3.drewN n4).cell? ⟨a, 3, none⟩ = some (.int .i64 (p : Int)) := c3
                clear HMT HL3 c0 c3 HROW HB4
                generalize W3.drewN n4 = W4 at *
                have HROW := Lib.hid HL4.out.founds.row
                go_upto_region 10 with (fail)
                rw [e6] at *
                go_wp2_with (at_builtin; refine wpList_append_one _ rfl _ _ 84 rfl 93 i0 (.agg #[.int .i64 0, .int .i64 0]) 2 16 Tryz.underlying84 HI.out HZ0.out HZ1.out HZ2.out rfl (by decide) u3 l0.length _ rfl (World.ownsRow.alloc HROW.out _) ⟨W4.heap.size, 0, none⟩ 1 [.int .i64 (n : Int), .int .i64 ((p : Int) - (qn : Int))] rfl rfl (fd_new _ _ _ _) (fd_one _ _) hn1 hn2 ?_; intro g9 cap9 w10 hown10 hgr10 hmv10; rw [E7.out] at hown10; have HTT := Lib.hid (HL4.out.founds.app HL4.out.below hown10 hgr10 hmv10); clear hown10 hgr10 hmv10)
                go_meet
                exact ⟨n, _, rfl, HTT.out.1, HTT.out.2, by rw [← HGO2.out]; simp, by have := HL4.out.len; simp; omega, by omega⟩
                -- END app
              · have HGO2 := Lib.hid (show l0 ++ devL (bt s) p most window left (prevF (bt s) qn qn) longest = full by rw [← HGO.out, if_neg hn])
                have hdn : decide (longest < n) = false := by simpa using hn
                cases eqB with
                | true =>
                  as_aux_lemma =>
                  -- BEGIN less
                  clear HGO HST HROW
                  go_wp2_with fail
                  refine HMT.out.mono ?_
                  rintro x w4 ⟨rfl, n4, rfl⟩
                  have HL4 := Lib.hid (HL3.out.news (below_drewN (Below.refl _ _) n4))
                  clear HMT HL3 c0 c3
                  go_wp2_with fail
                  go_meet
                  exact ⟨longest, l0, rfl, HL4.out.founds, HL4.out.below, HGO2.out, HL4.out.len, HL4.out.le⟩
                  -- END less
                | false =>
                  as_aux_lemma =>
                  -- BEGIN ne
                  clear HGO HST HROW HMT c0 c3
                  go_wp2_with fail
                  go_meet
                  exact ⟨longest, l0, rfl, HL3.out.founds, HL3.out.below, HGO2.out, HL3.out.len, HL3.out.le⟩
                  -- END ne
            case rest =>
              -- BEGIN rest
              obtain ⟨longest', l1, rfl, hL'⟩ := hcut
              have HL' := Lib.hid hL'
              have hpf := prevF_lt (bt s) qn qn
              have b5 : wc.cell? ⟨a, 5, none⟩ = some (.slice (some ⟨g, 0, none⟩) s.size cap) := (hL'.below.cell (p := ⟨a, 5, none⟩) hal).trans HF5.out
              have bq : wc.cell? ⟨g, qn, none⟩ = some (.int .i64 (prevF (bt s) qn qn)) := (hL'.below.cell (p := ⟨g, qn, none⟩) hgl).trans HGX.out
              have hqx : qn < s.size := by omega
              have hq0' : (0 : Int) ≤ (qn : Int) := by omega
              have hqx' : (qn : Int) < (s.size : Int) := by omega
              have e8 : IntKind.i64.wrap ((k : Int) + 1) = (k : Int) + 1 := IntWalk.i64_in _ (by omega)
              clear hL' HMT HST HL3 c0 c3 HGO
              generalize prevF (bt s) qn qn = q' at *
              go_wp2_with fail
              go_roundw
              case rel => exact ⟨k + 1, longest', q', l1, by omega, by go_num, rfl, rfl, hpf.2, by omega, by rw [hleft2]; exact HL'.out⟩
              case measure => simp [intOf]; omega
              -- END rest
    · as_aux_lemma =>
      -- BEGIN stop
      have HE := Lib.hid (show l0 = full by
        have := HL.out.eq
        rw [show cut.toNat - k = 0 from by omega, devL, List.append_nil] at this
        exact this)
      have HFO := Lib.hid HL.out.founds
      have hdl : decide ((k : Int) < cut) = false := by simpa using hlt
      clear HL
      go_wp2_with fail
      go_ret
      exact ⟨_, rfl, by rw [← HE.out]; exact HFO.out, HB.out⟩
      -- END stop
end
end Go.Proofs.YtoneghmahdjgbaaGreat.Ch
end
section
namespace Go.Proofs.YtoneghmahdjgbaaGreat.Ch
open Go.RowKit Go.Maps
open Mt
/-- What is found at p. -/
def foundL (s : ByteArray) (window cut : Int) (p : Nat) : List (Nat × Nat) := refL (bt s) p (min (s.size - p) 273) (decide (p + 3 ≤ s.size)) window cut p 0 0
theorem foundL_more {s : ByteArray} {window cut : Int} {p : Nat} (h : p + 3 ≤ s.size) : devL (bt s) p (min (s.size - p) 273) window cut.toNat (prevF (bt s) p p) 0 = foundL s window cut p := by
  unfold foundL
  rw [decide_eq_true h, ← dev_ref (bt s) p _ window cut p 0 0 (Nat.le_refl _) (Nat.zero_le _)]
  simp
theorem foundL_none {s : ByteArray} {window cut : Int} {p : Nat} (h : ¬ p + 3 ≤ s.size) : foundL s window cut p = [] := by
  unfold foundL
  rw [decide_eq_false h]
  exact refL_no _ _ _ _ _ _ _ _
/-- What Next leaves. -/
def NextTo (w : World) (O : Paint) (c a : Nat) (s : ByteArray) (window cut : Int) (p p' B : Nat) (v : Value) (x : Ending) (w' : World) : Prop :=
  ∃ v', x = .returned v' ∧ Founds 93 w w' v' (foundL s window cut p) ∧ ∃ xs' D', Step [c] w O w' O ∧ FinAt w' O c a s window cut p' p' B v xs' D'
section
variable {w w' : World} {O O' : Paint} {c a : Nat} {s : ByteArray} {window cut : Int} {p r B : Nat} {v : Value} {xs : List Int} {D : Dm}
theorem next_end (h : FinAt w O c a s window cut p p B v xs D) (hp : p = s.size) :
    Calls Tryz.prog 44 #[.pointer (some ⟨a, 0, none⟩)] w (NextTo w O c a s window cut p p B v) := by
  obtain ⟨h0, h1, h2, h3, h4, h5⟩ := h.cells
  have HLF := Lib.hid (left_raw h0 h3 h.place h.small)
  have HF := Lib.hid h
  have hd : (((s.size : Int) - (p : Int)) == 0) = true := by rw [beq_iff_eq]; omega
  have HFL := Lib.hid (foundL_none (window := window) (cut := cut) (show ¬ p + 3 ≤ s.size by omega))
  clear h h0 h1 h2 h3 h4 h5 hp
  go_enter Tryz.func44, Tryz.ntmps44
  go_wp2_with fail
  refine HLF.out.mono ?_
  rintro x w1 ⟨rfl, n1, rfl⟩
  go_wp2_with fail
  go_ret
  exact ⟨_, rfl, by rw [HFL.out]; exact Founds.nil _ _ _, _, _, (Step.refl _ _ _).drewN n1, HF.out.drewN n1⟩
set_option maxHeartbeats 1000000 in
theorem next_last (h : FinAt w O c a s window cut p p B v xs D) (hp : p < s.size) (hp3 : ¬ p + 3 ≤ s.size) :
    Calls Tryz.prog 44 #[.pointer (some ⟨a, 0, none⟩)] w (NextTo w O c a s window cut p (p + 1) B v) := by
  have HLF : Hid (∀ n, Calls Tryz.prog 66 #[.pointer (some ⟨a, 0, none⟩)] (w.drewN n) fun x w' => x = .returned (.int .i64 ((s.size : Int) - p)) ∧ ∃ m, w' = (w.drewN n).drewN m) := Lib.hid fun n => left_raw (h.drewN n).cells.1 (h.drewN n).cells.2.2.2.1 h.place h.small
  have HF := Lib.hid h
  have hd : (((s.size : Int) - (p : Int)) == 0) = false := by rw [beq_eq_false_iff_ne]; omega
  have hd3 : decide (3 ≤ (s.size : Int) - (p : Int)) = false := by simp; omega
  have HFL := Lib.hid (foundL_none (window := window) (cut := cut) hp3)
  have hsm := h.small
  have hal := h.blk.lt
  clear h
  go_enter Tryz.func44, Tryz.ntmps44
  go_wp2_with fail
  refine (HLF.out 0).mono ?_
  rintro x w1 ⟨rfl, n1, rfl⟩
  go_wp2_with fail
  refine (HLF.out n1).mono ?_
  rintro x w1 ⟨rfl, n2, rfl⟩
  have HF2 := Lib.hid ((HF.out.drewN n1).drewN n2)
  have HS2 : Hid (Step [c] w O ((w.drewN n1).drewN n2) O) := Lib.hid (((Step.refl _ _ _).drewN n1).drewN n2)
  generalize (w.drewN n1).drewN n2 = W at *
  obtain ⟨h0, h1, h2, h3, h4, h5⟩ := HF2.out.cells
  have hf3 := HF2.out.blk.free 3
  clear HLF HF
  go_wp2_with fail
  go_ret
  have hm := HF2.out.move hp (by omega) (by omega)
  exact ⟨_, rfl, by rw [HFL.out]; exact Founds.nil _ _ _, _, _, HS2.out.trans hm.2, hm.1⟩
set_option maxHeartbeats 1000000 in
theorem next_more (h : FinAt w O c a s window cut p p B v xs D) (hp3 : p + 3 ≤ s.size) (hw0 : -9223372036854775808 ≤ window) (hw1 : window ≤ 9223372036854775807) (hc1 : cut ≤ 9223372036854775807) :
    Calls Tryz.prog 44 #[.pointer (some ⟨a, 0, none⟩)] w (NextTo w O c a s window cut p (p + 1) B v) := by
  have HLF : Hid (∀ n, Calls Tryz.prog 66 #[.pointer (some ⟨a, 0, none⟩)] (w.drewN n) fun x w' => x = .returned (.int .i64 ((s.size : Int) - p)) ∧ ∃ m, w' = (w.drewN n).drewN m) := Lib.hid fun n => left_raw (h.drewN n).cells.1 (h.drewN n).cells.2.2.2.1 h.place h.small
  have HF := Lib.hid h
  have hd : (((s.size : Int) - (p : Int)) == 0) = false := by rw [beq_eq_false_iff_ne]; omega
  have hd3 : decide (3 ≤ (s.size : Int) - (p : Int)) = true := by simp; omega
  have hsm := h.small
  clear h
  go_enter Tryz.func44, Tryz.ntmps44
  go_wp2_with fail
  refine (HLF.out 0).mono ?_
  rintro x w1 ⟨rfl, n1, rfl⟩
  go_wp2_with fail
  refine (HLF.out n1).mono ?_
  rintro x w1 ⟨rfl, n2, rfl⟩
  have HF2 := Lib.hid ((HF.out.drewN n1).drewN n2)
  have HS2 : Hid (Step [c] w O ((w.drewN n1).drewN n2) O) := Lib.hid (((Step.refl _ _ _).drewN n1).drewN n2)
  generalize (w.drewN n1).drewN n2 = W at *
  clear HLF HF
  go_wp2_with fail
  refine (link_any HF2.out hp3).mono ?_
  rintro x w3 ⟨rfl, xs3, D3, hs3, hF3⟩
  have HF3 := Lib.hid hF3
  have HS3 := Lib.hid (HS2.out.trans hs3)
  clear hs3 hF3 HF2 HS2
  go_wp2_with fail
  refine (longer_any HF3.out hp3 hw0 hw1 hc1).mono ?_
  rintro x w4 ⟨v4, rfl, hfo, hb4⟩
  rw [foundL_more hp3] at hfo
  have HF4 := Lib.hid (HF3.out.below hb4)
  have HS4 := Lib.hid (HS3.out.trans (Step.of_below_same hb4 O).nil)
  have hsz := HS3.out.size
  have hal3 := HF3.out.blk.lt
  have HFO := Lib.hid hfo
  obtain ⟨h0, h1, h2, h3, h4, h5⟩ := HF4.out.cells
  have hf3 := HF4.out.blk.free 3
  clear hb4 hfo HF3 HS3
  go_wp2_with fail
  go_ret
  have hm := HF4.out.move (by omega) (by omega) (by omega)
  refine ⟨_, rfl, ⟨?_, fun k hk => Nat.le_trans hsz (HFO.out.new k hk)⟩, _, _, HS4.out.trans hm.2, hm.1⟩
  exact ownsRow_frame HFO.out.row ((Frame.refl (fun k => k = a) w4).setCell (p := ⟨a, 3, none⟩) (.inl rfl) _) (fun k hk e1 => by have := HFO.out.new k hk; omega)
/-- The next place. -/
theorem next_any (h : FinAt w O c a s window cut p p B v xs D) (hw0 : -9223372036854775808 ≤ window) (hw1 : window ≤ 9223372036854775807) (hc1 : cut ≤ 9223372036854775807) :
    Calls Tryz.prog 44 #[.pointer (some ⟨a, 0, none⟩)] w (NextTo w O c a s window cut p (min (p + 1) s.size) B v) := by
  by_cases h0 : p = s.size
  · rw [show min (p + 1) s.size = p from by omega]
    exact next_end h h0
  · have := h.place
    rw [show min (p + 1) s.size = p + 1 from by omega]
    by_cases h3 : p + 3 ≤ s.size
    · exact next_more h h3 hw0 hw1 hc1
    · exact next_last h (by omega) h3
end
end Go.Proofs.YtoneghmahdjgbaaGreat.Ch
end
section
namespace Go.Proofs.YtoneghmahdjgbaaGreat.Ch
open Mt
theorem foundL_rising (s : ByteArray) (window cut : Int) (p : Nat) : Rising (bt s) p (min (s.size - p) 273) window 2 0 (foundL s window cut p) := by
  by_cases h : p + 3 ≤ s.size
  · unfold foundL
    rw [decide_eq_true h]
    have := refL_rising (bt s) p (min (s.size - p) 273) true window cut (by omega) p 0 0 (Nat.le_refl _)
    rw [Nat.sub_self] at this
    exact this
  · rw [foundL_none h]
    trivial
theorem Rising.at : ∀ {b : Nat → Nat} {p most : Nat} {window : Int} {n0 d0 : Nat} {l : List (Nat × Nat)}, Rising b p most window n0 d0 l → ∀ i (h : i < l.length),
    n0 < l[i].1 ∧ l[i].1 ≤ most ∧ d0 < l[i].2 ∧ l[i].2 ≤ p ∧ (l[i].2 : Int) ≤ window ∧ (∀ j, j < l[i].1 → b (p + j) = b (p + j - l[i].2)) ∧ ∀ (h0 : 0 < i), l[i - 1].1 < l[i].1 ∧ l[i - 1].2 < l[i].2
  | _, _, _, _, _, _, [], _, i, h => by simp at h
  | _, _, _, _, _, _, x :: l, ⟨h1, h2, h3, h4, h5, h6, _⟩, 0, _ => ⟨h1, h2, h3, h4, h5, h6, fun h0 => by omega⟩
  | _, _, _, _, _, _, x :: l, ⟨h1, h2, h3, h4, h5, h6, h7⟩, i + 1, h => by
    have hi : i < l.length := by simpa using h
    obtain ⟨g1, g2, g3, g4, g5, g6, g7⟩ := Rising.at h7 i hi
    refine ⟨?_, g2, ?_, g4, g5, g6, fun _ => ?_⟩
    · show _ < l[i].1; omega
    · show _ < l[i].2; omega
    · cases i with
      | zero => exact ⟨g1, g3⟩
      | succ i => exact g7 (by omega)
end Go.Proofs.YtoneghmahdjgbaaGreat.Ch
end
