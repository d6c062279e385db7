/-
  The walk of the statement FreqCounts: for every text it returns true, and writes nothing that was there.
-/
import Derived.Test.YtjfoolhgjnnhgaaFreqSpeaks
import Derived.Test.YtjfoolhgjnnhgaaFreqRef0
import Derived.StillTailTactics
namespace Go.Proofs.Ytjfoolhgjnnhgaa.Fq
open Go.RowKit
/-- The document's Add, at a table with signs or without. -/
theorem radd_any {w : World} {v1 v2 : Value} {l : List (Nat × Nat)} (h : RefT w v1 v2 l) (h0 : l = [] → v1 = .slice none 0 0 ∧ v2 = .slice none 0 0) (ht : Tab 120 l) (hl : l.length ≤ 1000000) (s : Nat) (hs : s < 256) :
    Calls Try.prog 31 #[.agg #[v1, v2], .int .u8 (s : Int)] w fun x w' => ∃ v1' v2', x = .returned (.agg #[v1', v2']) ∧ RefT w' v1' v2' (addT l s) ∧ Below w.heap.size w w' ∧ (∀ k, v1'.ownBlock = some k → w.heap.size ≤ k) ∧ (∀ k, v2'.ownBlock = some k → w.heap.size ≤ k) := by
  by_cases hn : l = []
  · obtain ⟨rfl, rfl⟩ := h0 hn
    subst hn
    exact radd_first w s
  · exact radd_more h ht (List.length_pos_iff.2 hn) hl s hs
theorem add_ne (l : List (Nat × Nat)) (s : Nat) : addT l s ≠ [] := by
  intro e
  have h : (addT l s).length = 0 := by rw [e]; rfl
  unfold addT at h
  split at h
  · rename_i h1
    split at h
    · rw [halve_length, more_length] at h; omega
    · rw [more_length] at h; omega
  · simp at h
/-- The developers' table, and the document's in a variable. -/
structure LockF (w0 : World) (a M : Nat) (ld lr : List (Nat × Nat)) (vt v1 v2 : Value) (w : World) (O : Paint) : Prop where
  run : Run w0 w O
  tab : TabAt w O 1 a vt ld
  var : Blk w O 2 M (.cells #[v1, v2] 55 (0, 0))
  rows : RefT w v1 v2 lr
  own1 : ∀ k, v1.ownBlock = some k → O k = 2
  own2 : ∀ k, v2.ownBlock = some k → O k = 2
  nil0 : lr = [] → v1 = .slice none 0 0 ∧ v2 = .slice none 0 0
namespace LockF
variable {w0 w w' : World} {a M : Nat} {ld lr l' : List (Nat × Nat)} {vt v1 v2 : Value} {O O' : Paint}
theorem keep {cs : List Nat} (h : RefT w v1 v2 lr) (o1 : ∀ k, v1.ownBlock = some k → O k = 2) (o2 : ∀ k, v2.ownBlock = some k → O k = 2) (hs : Step cs w O w' O') (h2 : 2 ∉ cs) :
    RefT w' v1 v2 lr ∧ (∀ k, v1.ownBlock = some k → O' k = 2) ∧ (∀ k, v2.ownBlock = some k → O' k = 2) :=
  ⟨⟨ownsRow_frame h.row1 hs.frame (fun k hk ho => h2 (by rw [o1 k hk] at ho; exact ho)), ownsRow_frame h.row2 hs.frame (fun k hk ho => h2 (by rw [o2 k hk] at ho; exact ho))⟩,
    fun k hk => (hs.ext k (ownsRow_lt h.row1 k hk)).trans (o1 k hk), fun k hk => (hs.ext k (ownsRow_lt h.row2 k hk)).trans (o2 k hk)⟩
theorem idle (h : LockF w0 a M ld lr vt v1 v2 w O) (hs : Step [] w O w' O') : LockF w0 a M ld lr vt v1 v2 w' O' := by
  obtain ⟨r1, r2, r3⟩ := keep h.rows h.own1 h.own2 hs (by simp)
  exact ⟨h.run.step hs (by simp), h.tab.step hs (by simp), h.var.step hs (by simp), r1, r2, r3, h.nil0⟩
theorem below (h : LockF w0 a M ld lr vt v1 v2 w O) (hb : Below w.heap.size w w') : LockF w0 a M ld lr vt v1 v2 w' O := h.idle (Step.of_below_same hb O)
theorem dev (h : LockF w0 a M ld lr vt v1 v2 w O) (ha : Added w O 1 a l' w') : ∃ O' vt', LockF w0 a M l' lr vt' v1 v2 w' O' := by
  obtain ⟨O', vt', hs, ht⟩ := ha
  obtain ⟨r1, r2, r3⟩ := keep h.rows h.own1 h.own2 hs (by simp)
  exact ⟨O', vt', h.run.step hs (by simp), ht, h.var.step hs (by simp), r1, r2, r3, h.nil0⟩
theorem refs (h : LockF w0 a M ld lr vt v1 v2 w O) {v1' v2' : Value} (hb : Below w.heap.size w w') (hR : RefT w' v1' v2' l') (n1 : ∀ k, v1'.ownBlock = some k → w.heap.size ≤ k) (n2 : ∀ k, v2'.ownBlock = some k → w.heap.size ≤ k) (hne : l' ≠ []) :
    LockF w0 a M ld l' vt v1' v2' ((w'.setCell ⟨M, 0, none⟩ v1').setCell ⟨M, 1, none⟩ v2') (Step.paint O w 2) := by
  have s0 := Step.of_below hb O 2
  have b1 := h.var.step s0 (by simp)
  have hM : Step.paint O w 2 M ∈ [2] := by rw [b1.2]; simp
  have s1 : Step [2] w' (Step.paint O w 2) ((w'.setCell ⟨M, 0, none⟩ v1').setCell ⟨M, 1, none⟩ v2') (Step.paint O w 2) := ((Step.refl [2] w' _).setCell (p := ⟨M, 0, none⟩) (.inl hM) _).setCell (p := ⟨M, 1, none⟩) (.inl hM) _
  have b2 := b1.setCell 0 v1'
  have b3 := b2.setCell 1 v2'
  exact ⟨(h.run.step s0 (by simp)).step s1 (by simp), (h.tab.step s0 (by simp)).step s1 (by simp), by simpa using b3,
    ⟨own_set (own_set hR.row1 b1.1 (by decide) 0 _) b2.1 (by decide) 1 _, own_set (own_set hR.row2 b1.1 (by decide) 0 _) b2.1 (by decide) 1 _⟩,
    fun k hk => Step.paint_new (n1 k hk), fun k hk => Step.paint_new (n2 k hk), fun e => absurd e hne⟩
end LockF
def TwoNil (w : World) (x : Ending) (w' : World) : Prop := ∃ g1 g2 : Nat, x = .returned (.tuple #[.slice (some ⟨g1, 0, none⟩) 0 0, .slice (some ⟨g2, 0, none⟩) 0 0]) ∧ Below w.heap.size w w'
theorem nil_signs (w : World) : Calls Try.prog 32 #[.pointer none] w (TwoNil w) := by
  have mk8 : ∀ w, (Instr.makeSlice 32 (.int .i64 0) (.int .i64 0)).run Try.prog w = .ok (.slice (some ⟨w.heap.size, 0, none⟩) 0 0) (w.alloc (.cells #[] 5)) := fun w => by kernel_rfl
  have mkI : ∀ w, (Instr.makeSlice 53 (.int .i64 0) (.int .i64 0)).run Try.prog w = .ok (.slice (some ⟨w.heap.size, 0, none⟩) 0 0) (w.alloc (.cells #[] 3)) := fun w => by kernel_rfl
  go_enter Try.func32, Try.ntmps32
  go_wp2_with fail
  refine (nil_all w).mono ?_
  rintro x w1 ⟨rfl, rfl⟩
  go_wp2
  go_region
  focus
    have hb : Below w.heap.size w ((w.alloc (.cells #[] 5)).alloc (.cells #[] 3)).drew := bel_drew (bel_alloc _ (bel_alloc _ (Below.refl _ _)))
    have HB := Lib.hid hb
    clear hb
    go_wp2
  rotate_left
  focus
    have hb : Below w.heap.size w ((w.alloc (.cells #[] 3)).alloc (.cells #[] 5)).drew := bel_drew (bel_alloc _ (bel_alloc _ (Below.refl _ _)))
    have HB := Lib.hid hb
    clear hb
    go_wp2
  all_goals
    go_loop [19] (fun i => i = .int .i64 0) (fun i => 1)
    case atStart => rfl
    case round =>
      subst hrel
      go_wp2
      go_ret2
      exact ⟨_, _, rfl, HB.out⟩
theorem conv_row {w : World} {L : List Nat} {g c : Nat} (h : w.ownsRow 0 5 1 (.slice (some ⟨g, 0, none⟩) L.length c) L.length (u8s L)) (hL : ∀ x ∈ L, x < 256) :
    (convert 32 9 (.slice (some ⟨g, 0, none⟩) L.length c)).run Try.prog w = .ok (.string ⟨(L.map UInt8.ofNat).toArray⟩) w := by
  have hc := run_convert_bytes_back (P := Try.prog) w 32 9 5 ⟨g, 0, none⟩ c (L.map UInt8.ofNat) Try.underlying32 Try.underlying5 Try.underlying9 (fun j hj => by
    have hj' : j < L.length := by simpa using hj
    have hplain : (⟨g, 0, none⟩ : Addr).add j = ⟨g, j, none⟩ := by unfold Addr.add; split <;> simp_all
    rw [hplain, row_cell h (x := .int .u8 ((L[j] : Nat) : Int)) (by simp [u8s, hj'])]
    have hlt := hL L[j] (List.getElem_mem hj')
    simp
    omega)
  rw [List.length_map] at hc
  exact hc
theorem conv_nil (w : World) : (convert 32 9 (.slice none 0 0)).run Try.prog w = .ok (.string ⟨#[]⟩) w := run_convert_bytes_nil w 32 5 Try.underlying32 Try.underlying5 0 0 9 Try.underlying9
/-- The list of a text's first bytes. -/
def tab (t : ByteArray) (j : Nat) : List (Nat × Nat) := adds [] (t.data.toList.take j)
theorem tab_next (t : ByteArray) (j : Nat) (hj : j < t.size) : tab t (j + 1) = addT (tab t j) t[j].toNat := by
  unfold tab
  rw [List.take_succ_eq_append_getElem (by simpa using hj), adds_snoc]
  rfl
theorem tab_ok (t : ByteArray) (j : Nat) : Tab 120 (tab t j) := tab_adds _ _ (fun x hx => by cases hx)
theorem tab_len (t : ByteArray) (j : Nat) : (tab t j).length ≤ j := by
  have h := adds_length (t.data.toList.take j) []
  have h2 : (t.data.toList.take j).length ≤ j := List.length_take_le _ _
  unfold tab
  simp only [List.length_nil] at h; omega
/-- What the loop over a text holds. -/
def Adding (w0 : World) (a M : Nat) (l : List (Nat × Nat)) (w : World) : Prop := ∃ vt v1 v2 O, LockF w0 a M l l vt v1 v2 w O
set_option maxRecDepth 100000 in
set_option maxHeartbeats 8000000 in
theorem counts_walk (s : ByteArray) (w : World) (hs : s.size ≤ maxLen) :
    Calls Try.prog 5 #[.string s] w fun x w' => x = .returned (.bool true) ∧ Below w.heap.size w w' := by
  have HRUN := Lib.hid (Run.start w)
  have hs' := hs
  unfold maxLen at hs'
  go_enter Try.func5, Try.ntmps5
  go_wp2_with fail
  refine (speaks5 w).mono ?_
  rintro x w1 ⟨rfl, hb1⟩
  have HR1 := Lib.hid (HRUN.out.step (Step.of_below_same hb1 (fun _ => 0)) (by simp))
  clear hb1 HRUN
  go_wp2_with fail
  all_goals
    first
      | (have hh : 600 < (s.size : Int) := by assumption
         have ht : (s.extract 0 600).size ≤ 600 := by simp; omega
         generalize s.extract 0 600 = t at *)
      | (have hh : (s.size : Int) ≤ 600 := by assumption
         have ht : s.size ≤ 600 := by omega
         generalize s = t at *)
    clear hh
    refine (new_tab w1 (fun _ => 0) 1).mono ?_
    rintro x w2 ⟨a, rfl, O2, hs2, ht2⟩
    have HR2 := Lib.hid (HR1.out.step hs2 (by simp))
    have HT2 := Lib.hid ht2
    clear hs2 ht2 HR1
    go_wp2_with fail
    have hs3 := Step.alloc_paint w2 O2 2 (.cells #[.slice none 0 0, .slice none 0 0] 55)
    have HL0 : Hid (Adding w a w2.heap.size (tab t 0) (w2.alloc (.cells #[.slice none 0 0, .slice none 0 0] 55))) := Lib.hid ⟨.slice none 0 0, .slice none 0 0, .slice none 0 0, Step.paint O2 w2 2, HR2.out.step hs3 (by simp), HT2.out.step hs3 (by simp), Blk.new w2 O2 2 _, ⟨World.ownsRow_nil _ _ _ _, World.ownsRow_nil _ _ _ _⟩, fun k hk => by simp [Value.ownBlock] at hk, fun k hk => by simp [Value.ownBlock] at hk, fun _ => ⟨rfl, rfl⟩⟩
    generalize w2.alloc (.cells #[.slice none 0 0, .slice none 0 0] 55) = W3 at *
    generalize w2.heap.size = M at *
    clear hs3 HR2 HT2
    go_loopw [5] (fun i wr => ∃ j : Nat, j ≤ t.size ∧ i = .int .i64 j ∧ Adding w a M (tab t j) wr) (fun i _ => t.size - (intOf i).toNat)
    case atStart => exact ⟨0, by omega, rfl, HL0.out⟩
    case round =>
      clear HL0
      obtain ⟨j, hj, rfl, vt, v1, v2, O, hL⟩ := hrel
      have hok := tab_ok t j
      have hle := tab_len t j
      by_cases hlt : j < t.size
      · have HNX := Lib.hid (tab_next t j hlt)
        have hx := UInt8.toNat_lt t[j]
        have HL := Lib.hid hL
        have HOK := Lib.hid hok
        have HLE : (tab t j).length ≤ 1000000 := by omega
        have HAN := Lib.hid (add_ne (tab t j) t[j].toNat)
        clear hL hok hle
        generalize tab t j = l at *
        go_wp2_with fail
        refine (add_any HL.out.tab HOK.out HLE t[j].toNat (by omega)).mono ?_
        rintro x w4 ⟨rfl, ha⟩
        obtain ⟨O4, vt4, hL4⟩ := HL.out.dev ha
        have HL4 := Lib.hid hL4
        obtain ⟨m0, m1, mf0, mf1, mlt⟩ := two hL4.var.1
        have HRA := Lib.hid (fun (W : World) (hb : Below w4.heap.size w4 W) => radd_any (hL4.rows.below hb) hL4.nil0 HOK.out HLE t[j].toNat (by omega))
        clear ha hL4 HL
        go_upto_region 10 with (fail)
        have e1 : (0 : Int) ≤ (j : Int) := by omega
        have e2 : (j : Int) < (t.size : Int) := by omega
        go_still_tail 4, (by kernel_rfl)
        change wpList _ _ _ _ _ w4.drew
        have HD : Hid (Below w4.heap.size w4 w4.drew) := Lib.hid (bel_drew (Below.refl _ _))
        have m0' : w4.drew.cell? ⟨M, 0, none⟩ = some v1 := m0
        generalize w4.drew = w5 at *
        go_wp2_with fail
        refine (HRA.out _ HD.out).mono ?_
        rintro x w6 ⟨v1', v2', rfl, hR6, hb6, n1, n2⟩
        obtain ⟨y1, z1, y2, z2, rfl, rfl, _⟩ := hR6.form (List.length_pos_iff.2 HAN.out)
        have hz5 : w4.heap.size ≤ w5.heap.size := HD.out.size
        have c0 := (hb6.cell (p := ⟨M, 0, none⟩) (by show M < w5.heap.size; omega)).trans m0'
        have c1 := (hb6.cell (p := ⟨M, 1, none⟩) (by show M < w5.heap.size; omega)).trans ((HD.out.cell (p := ⟨M, 1, none⟩) mlt).trans m1)
        have f0 := (hb6.frozen (p := ⟨M, 0, none⟩) (by show M < w5.heap.size; omega)).trans ((HD.out.frozen (p := ⟨M, 0, none⟩) mlt).trans mf0)
        have f1 := (hb6.frozen (p := ⟨M, 1, none⟩) (by show M < w5.heap.size; omega)).trans ((HD.out.frozen (p := ⟨M, 1, none⟩) mlt).trans mf1)
        have HL6 := Lib.hid (HL4.out.refs (HD.out.trans (hb6.mono hz5)) hR6 (fun k hk => Nat.le_trans hz5 (n1 k hk)) (fun k hk => Nat.le_trans hz5 (n2 k hk)) HAN.out)
        clear hR6 hb6 n1 n2 m0 m1 mf0 mf1 m0' hz5
        go_wp2_with fail
        go_roundw
        case rel => exact ⟨j + 1, by omega, by go_num, by rw [HNX.out]; exact ⟨_, _, _, _, HL6.out⟩⟩
        case measure => simp [intOf]; omega
      · obtain rfl : j = t.size := by omega
        generalize tab t t.size = l at *
        have HL := Lib.hid hL
        have HOK := Lib.hid hok
        have HW := Lib.hid (tab_wide hok (show 120 ≤ 255 by omega))
        have hn : l.length ≤ 600 := by omega
        clear hL hok hle hlt hj
        go_wp2_with fail
        refine (signs_any HL.out.tab HW.out (by omega) 3 4).mono ?_
        rintro x w7 ⟨sv1, sv2, rfl, g1, g2, O7, rfl, rfl, hS⟩
        have hL7 := HL.out.idle ⟨hS.step.frame, fun _ _ => rfl⟩
        obtain ⟨h1, h2⟩ := hS.all
        have h1r := h1.row
        have h2r := h2.row
        have el1 : (u8s (l.map (·.1))).length = l.length := by simp [u8s]
        have el2 : (i64s (l.map (·.2))).length = l.length := by simp [i64s]
        rw [el1] at h1r
        rw [el2] at h2r
        have hL8 : ∀ x ∈ l.map (·.1), x < 256 := by
          intro x hx
          obtain ⟨y, hy, rfl⟩ := List.mem_map.1 hx
          exact (HOK.out y hy).1
        have cv1 := conv_row (L := l.map (·.1)) (c := l.length) (by rw [List.length_map]; exact h1r) hL8
        rw [List.length_map] at cv1
        obtain ⟨A1, q1, A2, q2, hv1, hv2, cv2⟩ : ∃ A1 q1 A2 q2, v1 = .slice A1 l.length q1 ∧ v2 = .slice A2 l.length q2 ∧ (convert 32 9 (.slice A1 l.length q1)).run Try.prog w7 = .ok (.string ⟨((l.map (·.1)).map UInt8.ofNat).toArray⟩) w7 := by
          by_cases h0 : l = []
          · obtain ⟨e1, e2⟩ := hL7.nil0 h0
            subst h0
            exact ⟨none, 0, none, 0, e1, e2, conv_nil w7⟩
          · obtain ⟨x1, y1, x2, y2, e1, e2, _⟩ := hL7.rows.form (List.length_pos_iff.2 h0)
            refine ⟨some ⟨x1, 0, none⟩, y1, some ⟨x2, 0, none⟩, y2, e1, e2, ?_⟩
            have h9 := hL7.rows.row1
            rw [e1] at h9
            have := conv_row (L := l.map (·.1)) (c := y1) (by rw [List.length_map]; exact h9) hL8
            rw [List.length_map] at this
            exact this
        obtain ⟨m0, m1, mf0, mf1, mlt⟩ := two hL7.var.1
        rw [hv1] at m0
        rw [hv2] at m1
        have HV1 := Lib.hid hv1
        have HV2 := Lib.hid hv2
        have HL7 := Lib.hid hL7
        have H1R := Lib.hid h1r
        have H2R := Lib.hid h2r
        have HS7 := Lib.hid (hS.step.frame.size)
        generalize (⟨((l.map (·.1)).map UInt8.ofNat).toArray⟩ : ByteArray) = SS at *
        clear hS hL7 h1 h2 h1r h2r el1 el2 hL8 hv1 hv2 HL
        have hbb : ((l.length : Int) != (l.length : Int)) = false := by simp
        go_wp2_with fail
        clear cv1 cv2 hbb m0 mf0 mf1
        go_loopw [8] (fun i wr => ∃ j : Nat, j ≤ l.length ∧ i = .int .i64 j ∧ Below w7.heap.size w7 wr) (fun i _ => l.length - (intOf i).toNat)
        case atStart => exact ⟨0, by omega, rfl, Below.refl _ _⟩
        case round =>
          obtain ⟨j, hj, rfl, hb⟩ := hrel
          by_cases hlt : j < l.length
          · have hne : l ≠ [] := fun e => by rw [e] at hlt; simp at hlt
            obtain ⟨x1, y1, x2, y2, e1, e2, _⟩ := HL7.out.rows.form (List.length_pos_iff.2 hne)
            rw [HV2.out] at e2
            simp only [Value.slice.injEq, true_and] at e2
            obtain ⟨rfl, rfl⟩ := e2
            have R2 := HL7.out.rows.row2
            rw [HV2.out] at R2
            have hx2 := ownsRow_lt R2 x2 rfl
            have G := Lib.hid (fun (W : World) (hW : Below w7.heap.size w7 W) => (⟨(hW.cell (p := ⟨M, 1, none⟩) mlt).trans m1, (hW.cell (p := ⟨x2, j, none⟩) hx2).trans (row_cell R2 (snd_at l j hlt)), (hW.cell (p := ⟨g2, j, none⟩) (ownsRow_lt H2R.out g2 rfl)).trans (row_cell H2R.out (snd_at l j hlt)), (hW.cell (p := ⟨g1, j, none⟩) (ownsRow_lt H1R.out g1 rfl)).trans (row_cell H1R.out (fst_at l j hlt))⟩ : W.cell? ⟨M, 1, none⟩ = some (.slice (some ⟨x2, 0, none⟩) l.length q2) ∧ W.cell? ⟨x2, j, none⟩ = some (.int .i64 ((at' l j).2 : Int)) ∧ W.cell? ⟨g2, j, none⟩ = some (.int .i64 ((at' l j).2 : Int)) ∧ W.cell? ⟨g1, j, none⟩ = some (.int .u8 ((at' l j).1 : Int))))
            have hta := tab_at HOK.out hlt
            have HHB := Lib.hid (show hasB l (at' l j).1 = true by unfold hasB; rw [decide_eq_true_iff]; exact find_has l j hlt)
            have HHA := Lib.hid (has_any (HL7.out.below (bel_drew hb)).tab HW.out (at' l j).1 hta.1)
            rw [HHB.out] at HHA
            have HB := Lib.hid hb
            obtain ⟨d1, d2, d3, d4⟩ := G.out _ hb
            have t1 := G.out _ (bel_drew hb)
            have T1 := Lib.hid t1
            clear t1
            generalize (at' l j).1 = s1 at *
            generalize (at' l j).2 = s2 at *
            have k1 : (0 : Int) ≤ (j : Int) := by omega
            have k2 : (j : Int) < (l.length : Int) := by omega
            have k3 : (j : Int).toNat = j := by omega
            clear hb R2 e1
            go_upto_region 17 with (fail)
            have hne2 : ((s2 : Int) != (s2 : Int)) = false := by simp
            go_region_held3 (fun W => W.cell? ⟨M, 1, none⟩ = some (.slice (some ⟨x2, 0, none⟩) l.length q2) ∧ W.cell? ⟨x2, j, none⟩ = some (.int .i64 (s2 : Int)) ∧ W.cell? ⟨g2, j, none⟩ = some (.int .i64 (s2 : Int)) ∧ W.cell? ⟨g1, j, none⟩ = some (.int .u8 (s1 : Int))) (first | exact T1.out | exact G.out _ HB9.out | go_keep) ((go_at_call 33; (with_reducible refine HHA.out.mono ?_); rintro x w9 ⟨rfl, hb9⟩; have HB9 := Lib.hid (bel_new hb9 (bel_drew HB.out)); clear hb9))
            all_goals
              clear d1 d2 d3 d4
              go_wp2_with fail
              go_roundw
              case rel => exact ⟨j + 1, by omega, by go_num, HB9.out⟩
              case measure => simp [intOf]; omega
          · obtain rfl : j = l.length := by omega
            have HB := Lib.hid hb
            clear hb
            go_wp2_with fail
            refine (nil_add _ 1).mono ?_
            rintro x w8 ⟨rfl, rfl⟩
            go_wp2_with fail
            refine (nil_signs _).mono ?_
            rintro x w8 ⟨u1, u2, rfl, hb8⟩
            have HB8 := Lib.hid (bel_new hb8 HB.out)
            clear hb8
            go_wp2_with fail
            refine (nil_has _ 1).mono ?_
            rintro x w9 ⟨rfl, rfl⟩
            go_wp2_with fail
            go_ret
            exact ⟨rfl, (HL7.out.below HB8.out).run.below⟩
end Go.Proofs.Ytjfoolhgjnnhgaa.Fq
