/-
  Package arena, of tables: contracts (by gen_arstr.py, from those of numbers).
-/
import Derived.Test.YteacmcckhjabmaaArenaTake
set_option linter.unusedVariables false
set_option linter.unusedSimpArgs false
namespace Go.Proofs.Yteacmcckhjabmaa.At
open Go.RowKit
open Rc Ar
section
variable {cs : List Nat} {w w' : World} {O O' : Paint} {c1 c2 c3 c4 a ex : Nat} {z : Aren} {B : Nat → Nat} {A : Nat → Array Value} {vp vf : Value}
set_option maxRecDepth 100000 in
theorem cell_any (h : ArenaAt w O c1 c2 c3 c4 a 159 198 186 z ex B A vp vf) {i : Nat} (h1 : 1 ≤ i) (h2 : i ≤ z.used) : Calls Try.prog 119 #[.pointer (some ⟨a, 0, none⟩), .int .i64 (i : Int)] w fun x w' => x = .returned (.pointer (some ⟨B (lg i), 2 * pk i, none⟩)) ∧ ∃ n, w' = w.drewN n := by
  obtain ⟨a0, a1, a2, a3, a4⟩ := here h.ok h1 h2
  have hm := h.ok.most
  have hl := h.ok.le
  have HPL := Lib.hid (place_any i h1 (by omega))
  have hlen : (pgs B z.cells (Lib.bitLen z.used)).length = Lib.bitLen z.used := by unfold pgs; simp
  obtain ⟨gp, cap, rfl, hcap, _, _, _⟩ := h.pages.form (by rw [hlen]; omega)
  have hc := h.pages.cell (pgs_at B z.cells a1)
  obtain ⟨o0, o1, o2, o3⟩ := four_cells h.obj.1
  rw [hlen] at o1
  obtain ⟨L, hL⟩ : ∃ L, L = lg i := ⟨_, rfl⟩
  obtain ⟨P, hP⟩ : ∃ P, P = pk i := ⟨_, rfl⟩
  obtain ⟨S, hS⟩ : ∃ S, S = psz z.cells L := ⟨_, rfl⟩
  rw [← hL, ← hP] at HPL ⊢
  rw [← hL] at hc a1 a2
  rw [← hS] at hc a2
  rw [← hP] at a2
  have hb : L < Lib.bitLen z.used := a1
  generalize Lib.bitLen z.used = NP at *
  have q0 : (0 : Int) ≤ (L : Int) := by omega
  have q1 : (L : Int) < (NP : Int) := by omega
  have q2 : (0 : Int) ≤ (P : Int) := by omega
  have q3 : (P : Int) < (S : Int) := by omega
  have q4 : (L : Int).toNat = L := rfl
  have q5 : (P : Int).toNat = P := rfl
  clear h hm hl hlen hL hP hS a0 a3 a4 hcap
  go_enter Try.func119, Try.ntmps119
  go_wp2_with fail
  refine (HPL.out w).mono ?_
  rintro x w1 ⟨rfl, n, rfl⟩
  go_wp2_with fail
  go_ret
  exact ⟨by simp [Nat.mul_comm], n, rfl⟩
set_option maxRecDepth 100000 in
theorem taken_any (h : ArenaAt w O c1 c2 c3 c4 a 159 198 186 z ex B A vp vf) (i : Int) (hex : ex = 0) : Calls Try.prog 121 #[.pointer (some ⟨a, 0, none⟩), .int .i64 i] w fun x w' => x = .returned (.bool (z.takenB i)) ∧ ∃ n, w' = w.drewN n := by
  obtain ⟨o0, o1, o2, o3⟩ := four_cells h.obj.1
  unfold Aren.takenB
  by_cases h1 : 1 ≤ i
  · by_cases h2 : i ≤ (z.used : Int)
    · obtain ⟨k, rfl⟩ := Int.eq_ofNat_of_zero_le (show 0 ≤ i by omega)
      have HC := Lib.hid (cell_any h (i := k) (by omega) (by omega))
      have HT := Lib.hid (fun n => ((drewN_at h n).two (i := k) (by omega) (by omega) (by omega)).2)
      rw [show decide (1 ≤ (k : Int) ∧ (k : Int) ≤ (z.used : Int)) = true from decide_eq_true ⟨h1, h2⟩, Bool.true_and, show ((k : Int)).toNat = k from rfl]
      have g1 : decide (1 ≤ (k : Int)) = true := decide_eq_true h1
      have g2 : decide ((k : Int) ≤ (z.used : Int)) = true := decide_eq_true h2
      generalize (z.C k).2 = b at *
      clear h
      go_enter Try.func121, Try.ntmps121
      go_wp2_with fail
      refine (HC.out).mono ?_
      rintro x w1 ⟨rfl, n, rfl⟩
      have ht := HT.out n
      go_wp2_with fail
      go_ret
      exact ⟨rfl, n, rfl⟩
    · have g1 : decide (1 ≤ i) = true := decide_eq_true h1
      have g2 : decide (i ≤ (z.used : Int)) = false := decide_eq_false h2
      rw [show decide (1 ≤ i ∧ i ≤ (z.used : Int)) = false from decide_eq_false (fun h => h2 h.2), Bool.false_and]
      clear h
      go_enter Try.func121, Try.ntmps121
      go_wp2_with fail
      go_ret
      exact ⟨rfl, 0, rfl⟩
  · have g1 : decide (1 ≤ i) = false := decide_eq_false h1
    rw [show decide (1 ≤ i ∧ i ≤ (z.used : Int)) = false from decide_eq_false (fun h => h1 h.1), Bool.false_and]
    clear h
    go_enter Try.func121, Try.ntmps121
    go_wp2_with fail
    go_ret
    exact ⟨rfl, 0, rfl⟩
set_option maxRecDepth 100000 in
theorem taken_nil (i : Int) (w : World) : Calls Try.prog 121 #[.pointer none, .int .i64 i] w fun x w' => x = .returned (.bool false) ∧ w = w' := by
  go_enter Try.func121, Try.ntmps121
  go_wp2_with fail
  go_ret
  exact ⟨rfl, rfl⟩
set_option maxRecDepth 100000 in
theorem at_any (h : ArenaAt w O c1 c2 c3 c4 a 159 198 186 z ex B A vp vf) (i : Int) (hex : ex = 0) : Calls Try.prog 102 #[.pointer (some ⟨a, 0, none⟩), .int .i64 i] w fun x w' => x = .returned (if z.takenB i = true then .pointer (some ⟨B (lg i.toNat), 2 * pk i.toNat, none⟩) else .pointer none) ∧ ∃ n, w' = w.drewN n := by
  have HT := Lib.hid (taken_any h i hex)
  cases hb : z.takenB i with
  | false =>
    rw [hb] at HT
    clear h
    go_enter Try.func102, Try.ntmps102
    go_wp2_with fail
    refine HT.out.mono ?_
    rintro x w1 ⟨rfl, n, rfl⟩
    go_wp2_with fail
    go_ret
    exact ⟨rfl, n, rfl⟩
  | true =>
    rw [hb] at HT
    have hh : 1 ≤ i ∧ i ≤ (z.used : Int) := by
      unfold Aren.takenB at hb
      simp only [Bool.and_eq_true, decide_eq_true_eq] at hb
      exact hb.1
    obtain ⟨k, rfl⟩ := Int.eq_ofNat_of_zero_le (show 0 ≤ i by omega)
    have HC := Lib.hid (fun n => cell_any (drewN_at h n) (i := k) (by omega) (by omega))
    clear h hb hh
    go_enter Try.func102, Try.ntmps102
    go_wp2_with fail
    refine HT.out.mono ?_
    rintro x w1 ⟨rfl, n, rfl⟩
    go_wp2_with fail
    refine (HC.out n).mono ?_
    rintro x w1 ⟨rfl, m, rfl⟩
    go_wp2_with fail
    go_ret
    exact ⟨by simp, n + m, by simp [World.drewN, Nat.add_assoc]⟩
set_option maxRecDepth 100000 in
theorem at_nil (i : Int) (w : World) : Calls Try.prog 102 #[.pointer none, .int .i64 i] w fun x w' => x = .returned (.pointer none) ∧ w = w' := by
  have HT := Lib.hid (taken_nil i w)
  go_enter Try.func102, Try.ntmps102
  go_wp2_with fail
  refine HT.out.mono ?_
  rintro x w1 ⟨rfl, rfl⟩
  go_wp2_with fail
  go_ret
  exact ⟨rfl, rfl⟩
set_option maxRecDepth 100000 in
theorem left_any (h : ArenaAt w O c1 c2 c3 c4 a 159 198 186 z ex B A vp vf) : Calls Try.prog 68 #[.pointer (some ⟨a, 0, none⟩)] w fun x w' => x = .returned (.int .i64 z.left) ∧ ∃ n, w' = w.drewN n := by
  obtain ⟨o0, o1, o2, o3⟩ := four_cells h.obj.1
  have hm := h.ok.most
  have hl := h.ok.le
  have hn := h.ok.len
  obtain ⟨A9, p9, rfl⟩ : ∃ A9 p9, vf = .slice A9 z.F.length p9 := by
    rcases h.freed.row.2 with ⟨e1, e2⟩ | ⟨g, p, cur, e1, _⟩
    · exact ⟨none, 0, by rw [e1]; simp at e2; rw [e2]; rfl⟩
    · exact ⟨some ⟨g, 0, none⟩, p, by rw [e1]; simp⟩
  have hw1 : IntKind.i64.wrap ((z.cells : Int) - (z.used : Int)) = (z.cells : Int) - (z.used : Int) := by rw [IntKind.wrap_i64]; omega
  have hw2 : IntKind.i64.wrap ((z.cells : Int) - (z.used : Int) + (z.F.length : Int)) = (z.cells : Int) - (z.used : Int) + (z.F.length : Int) := by rw [IntKind.wrap_i64]; omega
  have hw3 : wrap64 ((z.cells : Int) - (z.used : Int)) = (z.cells : Int) - (z.used : Int) := by unfold wrap64; omega
  have hw4 : wrap64 ((z.cells : Int) - (z.used : Int) + (z.F.length : Int)) = (z.cells : Int) - (z.used : Int) + (z.F.length : Int) := by unfold wrap64; omega
  unfold Aren.left
  clear h hm hl hn
  go_enter Try.func68, Try.ntmps68
  go_upto_region 3 with (fail)
  go_quiet (fail)
  go_wp2_with fail
  go_ret
  first | exact ⟨rfl, _, rfl⟩ | (refine ⟨?_, _, rfl⟩; simp only [hw3, hw4])
set_option maxRecDepth 100000 in
theorem left_nil (w : World) : Calls Try.prog 68 #[.pointer none] w fun x w' => x = .returned (.int .i64 0) ∧ w = w' := by
  go_enter Try.func68, Try.ntmps68
  go_wp2_with fail
  go_ret
  exact ⟨rfl, rfl⟩
set_option maxRecDepth 100000 in
theorem new_any (n : Int) (hr : n ≤ 9223372036854775807) (w : World) (O : Paint) (hc : c1 ≠ c2 ∧ c1 ≠ c3 ∧ c1 ≠ c4 ∧ c2 ≠ c3 ∧ c2 ≠ c4 ∧ c3 ≠ c4) (B : Nat → Nat) (A : Nat → Array Value) : Calls Try.prog 65 #[.int .i64 n] w fun x w' => ∃ O' a, x = .returned (.pointer (some ⟨a, 0, none⟩)) ∧ Step [] w O w' O' ∧ ArenaAt w' O' c1 c2 c3 c4 a 159 198 186 (zNew n.toNat) 0 B A (.slice none 0 0) (.slice none 0 0) := by
  have key : ∀ m : Int, m = ((n.toNat : Nat) : Int) → ∃ O' a', (Ending.returned (.pointer (some ⟨w.heap.size, 0, none⟩)) = .returned (.pointer (some ⟨a', 0, none⟩))) ∧ Step [] w O (w.alloc (.cells #[.int .i64 m, .slice none 0 0, .int .i64 0, .slice none 0 0] 159)) O' ∧ ArenaAt (w.alloc (.cells #[.int .i64 m, .slice none 0 0, .int .i64 0, .slice none 0 0] 159)) O' c1 c2 c3 c4 a' 159 198 186 (zNew n.toNat) 0 B A (.slice none 0 0) (.slice none 0 0) := by
    rintro m rfl
    exact ⟨Step.paint O w c1, w.heap.size, rfl, Step.of_below ((Below.refl _ _).alloc (Nat.le_refl _) _) O c1, at_new n.toNat (by omega) hc ⟨heap_alloc_new _ _, Step.paint_new (Nat.le_refl _)⟩ B A⟩
  have HK := Lib.hid key
  clear key
  rcases Int.lt_or_le n 0 with hn | hn
  · have h1 : ¬ 0 ≤ n := by omega
    have h2 : n ≤ 0 := by omega
    go_enter Try.func65, Try.ntmps65
    go_wp2_with fail
    go_ret
    exact HK.out _ (by omega)
  · have h1 : ¬ n < 0 := by omega
    go_enter Try.func65, Try.ntmps65
    go_wp2_with fail
    go_ret
    exact HK.out _ (by omega)
set_option maxRecDepth 100000 in
theorem clear_any (h : ArenaAt w O c1 c2 c3 c4 a 159 198 186 z ex B A vp vf) : Calls Try.prog 97 #[.pointer (some ⟨a, 0, none⟩)] w fun x w' => x = .returned (.tuple #[]) ∧ Step [c1] w O w' O ∧ ArenaAt w' O c1 c2 c3 c4 a 159 198 186 (zNew z.cells) 0 B A (.slice none 0 0) (.slice none 0 0) := by
  obtain ⟨o0, o1, o2, o3⟩ := four_cells h.obj.1
  have f0 := h.obj.free 0
  have f1 := h.obj.free 1
  have f2 := h.obj.free 2
  have f3 := h.obj.free 3
  have hs : Step [c1] w O ((((w.setCell ⟨a, 0, none⟩ (.int .i64 (z.cells : Int))).setCell ⟨a, 1, none⟩ (.slice none 0 0)).setCell ⟨a, 2, none⟩ (.int .i64 0)).setCell ⟨a, 3, none⟩ (.slice none 0 0)) O :=
    ((((Step.refl [c1] w O).setCell (p := ⟨a, 0, none⟩) (.inl (by simp [h.obj.2])) _).setCell (p := ⟨a, 1, none⟩) (.inl (by simp [h.obj.2])) _).setCell (p := ⟨a, 2, none⟩) (.inl (by simp [h.obj.2])) _).setCell (p := ⟨a, 3, none⟩) (.inl (by simp [h.obj.2])) _
  have hb := (((h.obj.setCell 0 (.int .i64 (z.cells : Int))).setCell 1 (.slice none 0 0)).setCell 2 (.int .i64 0)).setCell 3 (.slice none 0 0)
  simp at hb
  have HS := Lib.hid hs
  have HN := Lib.hid (at_new (c1 := c1) (c2 := c2) (c3 := c3) (c4 := c4) (tp := 198) (tc := 186) z.cells h.ok.most h.col hb B A)
  clear h hs hb
  go_enter Try.func97, Try.ntmps97
  go_wp2_with fail
  first | go_end0 | refine bodyPost_ret (results_none rfl _ _ _) rfl ?_
  exact ⟨rfl, HS.out, HN.out⟩
set_option maxRecDepth 100000 in
theorem clear_nil (w : World) : Calls Try.prog 97 #[.pointer none] w fun x w' => x = .returned (.tuple #[]) ∧ w = w' := by
  go_enter Try.func97, Try.ntmps97
  go_wp2_with fail
  first | go_end0 | refine bodyPost_ret (results_none rfl _ _ _) rfl ?_
  exact ⟨rfl, rfl⟩
-- BEGIN free
set_option maxRecDepth 100000 in
theorem next_free (h : ArenaAt w O c1 c2 c3 c4 a 159 198 186 z 0 B A vp vf) {l : List Nat} {i : Nat} (hF : z.F = l ++ [i]) (v : Value) : Calls Try.prog 118 #[.pointer (some ⟨a, 0, none⟩)] w fun x w' => x = .returned (.int .i64 (i : Int)) ∧ ∃ O' vf', Step [c1] w O w' O' ∧ ArenaAt w' O' c1 c2 c3 c4 a 159 198 186 (z.take v) i B A vp vf' := by
  obtain ⟨o0, o1, o2, o3⟩ := four_cells h.obj.1
  have hl := h.ok.len
  have hfr := h.freed
  rw [hF, map_snoc] at hfr
  have hm := h.ok.most
  have hle := h.ok.le
  obtain ⟨g, cap, rfl, hcap, hcm, _, _⟩ := hfr.form (by simp)
  clear hcm
  have hlen : (l.map (fun (i : Nat) => Value.int .i64 (i : Int)) ++ [Value.int .i64 (i : Int)]).length = l.length + 1 := by simp
  rw [hlen] at o3 hcap
  have hc := hfr.cell (j := l.length) (x := .int .i64 (i : Int)) (by simp)
  have f3 := h.obj.free 3
  have hs : Step [c1] w O (w.setCell ⟨a, 3, none⟩ (.slice (some ⟨g, 0, none⟩) l.length cap)) O := (Step.refl [c1] w O).setCell (p := ⟨a, 3, none⟩) (.inl (by simp [h.obj.2])) _
  have hb := h.obj.setCell 3 (.slice (some ⟨g, 0, none⟩) l.length cap)
  simp at hb
  have hi2 := held_init hfr
  rw [List.length_map] at hi2
  obtain ⟨d1, d2, d3, d4, d5, d6⟩ := h.col
  have HA := Lib.hid (And.intro hs (h.taken hF v hs hb (hi2.step hs (by simp; omega))))
  have hk : l.length ≤ z.used := by rw [hF] at hl; simp at hl; omega
  have q0 : (0 : Int) ≤ (l.length : Int) := by omega
  have q1 : (l.length : Int) < ((l.length + 1 : Nat) : Int) := by omega
  have q4 : (l.length : Int) < (l.length : Int) + 1 := by omega
  have hw6 : wrap64 (l.length : Int) = (l.length : Int) := by unfold wrap64; omega
  have q2 : (l.length : Int).toNat = l.length := rfl
  have q3 : (l.length : Int) ≤ (cap : Int) := Int.ofNat_le.2 (Nat.le_of_succ_le hcap)
  clear h hl hfr hm hle hs hb hi2 hF hk
  generalize l.length = N at *
  go_enter Try.func118, Try.ntmps118
  go_wp2_with fail
  go_ret
  exact ⟨rfl, O, _, HA.out.1, HA.out.2⟩
-- END free
-- BEGIN old
set_option maxRecDepth 100000 in
set_option maxHeartbeats 4000000 in
theorem next_old (h : ArenaAt w O c1 c2 c3 c4 a 159 198 186 z 0 B A vp vf) (hF : z.F = []) (hl : z.used < z.cells) (v : Value) (hn : Lib.bitLen (z.used + 1) = Lib.bitLen z.used ∧ lg (z.used + 1) < Lib.bitLen z.used) : Calls Try.prog 118 #[.pointer (some ⟨a, 0, none⟩)] w fun x w' => x = .returned (.int .i64 ((z.used : Int) + 1)) ∧ ∃ O' B' A' vp', Step [c1, c2] w O w' O' ∧ ArenaAt w' O' c1 c2 c3 c4 a 159 198 186 (z.take v) (z.used + 1) B' A' vp' vf := by
  obtain ⟨o0, o1, o2, o3⟩ := four_cells h.obj.1
  have hm := h.ok.most
  obtain ⟨A9, p9, rfl⟩ : ∃ A9 p9, vf = .slice A9 0 p9 := by
    have hr := h.freed.row.2
    rw [hF] at hr
    rcases hr with ⟨e1, e2⟩ | ⟨g, p, cur, e1, _⟩
    · exact ⟨none, 0, by rw [e1]⟩
    · exact ⟨some ⟨g, 0, none⟩, p, by rw [e1]; rfl⟩
  have f2 := h.obj.free 2
  have hlen : (pgs B z.cells (Lib.bitLen z.used)).length = Lib.bitLen z.used := by unfold pgs; simp
  obtain ⟨AP, pp, rfl⟩ : ∃ AP pp, vp = .slice AP (Lib.bitLen z.used) pp := by
    rcases h.pages.row.2 with ⟨e1, e2⟩ | ⟨g, p, cur, e1, _⟩
    · exact ⟨none, 0, by rw [e1]; rw [hlen] at e2; rw [e2]⟩
    · exact ⟨some ⟨g, 0, none⟩, p, by rw [e1, hlen]⟩
  have HPL : Hid (∀ W, Calls Try.prog 127 #[.int .i64 ((z.used : Int) + 1)] W fun x w' => x = .returned (.tuple #[.int .i64 (lg (z.used + 1) : Int), .int .i64 (pk (z.used + 1) : Int)]) ∧ ∃ n, w' = W.drewN n) := Lib.hid (fun W => place_any (z.used + 1) (by omega) (by omega) W)
  obtain ⟨d1, d2, d3, d4, d5, d6⟩ := h.col
  have hb := h.obj.setCell 2 (.int .i64 ((z.used + 1 : Nat) : Int))
  simp at hb
  have hs : Step [c1, c2] w O (w.setCell ⟨a, 2, none⟩ (.int .i64 ((z.used + 1 : Nat) : Int))) O := (Step.refl [c1, c2] w O).setCell (p := ⟨a, 2, none⟩) (.inl (by simp [h.obj.2])) _
  have hw : wrap64 ((z.used : Int) + 1) = (z.used : Int) + 1 := by unfold wrap64; omega
  have hwi : IntKind.i64.wrap ((z.used : Int) + 1) = (z.used : Int) + 1 := by rw [IntKind.wrap_i64]; omega
  obtain ⟨hn1, hn2⟩ := hn
  have hs1 : Step [c1] w O (w.setCell ⟨a, 2, none⟩ (.int .i64 ((z.used + 1 : Nat) : Int))) O := (Step.refl [c1] w O).setCell (p := ⟨a, 2, none⟩) (.inl (by simp [h.obj.2])) _
  have hA := h.grown (A' := A) hF hl v hs hb (by rw [hn1]; exact h.pages.step hs1 (by simp; omega)) (by rw [hn1]; exact h.pg.step hs1 (by simp; omega)) (fun _ _ => rfl)
  have HA := Lib.hid (fun n => And.intro (hs.drewN n) (drewN_at hA n))
  have q1 : decide ((lg (z.used + 1) : Int) = (Lib.bitLen z.used : Int)) = false := by rw [decide_eq_false_iff_not]; omega
  have q2 : ¬ (lg (z.used + 1) : Int) = (Lib.bitLen z.used : Int) := by omega
  have q3 : ¬ lg (z.used + 1) = Lib.bitLen z.used := by omega
  have HO : Hid (∀ n, ((w.setCell ⟨a, 2, none⟩ (.int .i64 ((z.used : Int) + 1))).drewN n).cell? ⟨a, 1, none⟩ = some (.slice AP (Lib.bitLen z.used) pp) ∧ ((w.setCell ⟨a, 2, none⟩ (.int .i64 ((z.used : Int) + 1))).drewN n).cell? ⟨a, 2, none⟩ = some (.int .i64 ((z.used : Int) + 1))) := Lib.hid (fun n => by
    have := four_cells hb.1
    exact ⟨this.2.1, this.2.2.1⟩)
  clear h hm hlen hs hs1 hb hA hn1 hn2 hF hl
  generalize lg (z.used + 1) = L at *
  generalize pk (z.used + 1) = P at *
  generalize Lib.bitLen z.used = NP at *
  go_enter Try.func118, Try.ntmps118
  go_wp2_with fail
  refine (HPL.out _).mono ?_
  rintro x w1 ⟨rfl, n, rfl⟩
  obtain ⟨g1, g2⟩ := HO.out n
  go_wp2_with fail
  go_ret
  exact ⟨rfl, O, _, _, _, (HA.out n).1, (HA.out n).2⟩
-- END old
-- BEGIN page
theorem infoPage : (Try.prog.info? 198).map (fun i => (i.zero, i.size, i.bytes)) = some (some (.slice none 0 0), 1, 24) := by kernel_rfl
theorem infoCell : (Try.prog.info? 186).map (fun i => (i.zero, i.size, i.bytes)) = some (some (.agg #[.pointer none, .bool false]), 2, 16) := by kernel_rfl
theorem make_page (m : Int) (h0 : 0 ≤ m) (h1 : m ≤ 1000000000001) (W : World) : (Instr.makeSlice 198 (.int .i64 m) (.int .i64 m)).run Try.prog W = .ok (.slice (some ⟨W.heap.size, 0, none⟩) m.toNat m.toNat) (W.alloc (.cells (madeCells #[.pointer none, .bool false] (m.toNat * 2)) 186)) := by
  obtain ⟨i0, hi, hz0, hz1, hz2⟩ := info_parts infoCell
  have := run_make (P := Try.prog) W 198 186 i0 (.agg #[.pointer none, .bool false]) Try.underlying198 hi hz0 .i64 .i64 m m h0 (by omega) (by rw [hz2]; omega) (by omega)
  rw [hz1] at this
  exact this
set_option maxRecDepth 100000 in
set_option maxHeartbeats 4000000 in
theorem next_page (h : ArenaAt w O c1 c2 c3 c4 a 159 198 186 z 0 B A vp vf) (hF : z.F = []) (hl : z.used < z.cells) (hu : z.used ≤ 1000000000) (v : Value) (hn : Lib.bitLen (z.used + 1) = Lib.bitLen z.used + 1 ∧ lg (z.used + 1) = Lib.bitLen z.used ∧ z.used + 1 = 2 ^ lg (z.used + 1)) : Calls Try.prog 118 #[.pointer (some ⟨a, 0, none⟩)] w fun x w' => x = .returned (.int .i64 ((z.used : Int) + 1)) ∧ ∃ O' B' A' vp', Step [c1, c2] w O w' O' ∧ ArenaAt w' O' c1 c2 c3 c4 a 159 198 186 (z.take v) (z.used + 1) B' A' vp' vf := by
  obtain ⟨o0, o1, o2, o3⟩ := four_cells h.obj.1
  have hm := h.ok.most
  obtain ⟨A9, p9, rfl⟩ : ∃ A9 p9, vf = .slice A9 0 p9 := by
    have hr := h.freed.row.2
    rw [hF] at hr
    rcases hr with ⟨e1, e2⟩ | ⟨g, p, cur, e1, _⟩
    · exact ⟨none, 0, by rw [e1]⟩
    · exact ⟨some ⟨g, 0, none⟩, p, by rw [e1]; rfl⟩
  have f2 := h.obj.free 2
  have hlen : (pgs B z.cells (Lib.bitLen z.used)).length = Lib.bitLen z.used := by unfold pgs; simp
  obtain ⟨AP, pp, rfl⟩ : ∃ AP pp, vp = .slice AP (Lib.bitLen z.used) pp := by
    rcases h.pages.row.2 with ⟨e1, e2⟩ | ⟨g, p, cur, e1, _⟩
    · exact ⟨none, 0, by rw [e1]; rw [hlen] at e2; rw [e2]⟩
    · exact ⟨some ⟨g, 0, none⟩, p, by rw [e1, hlen]⟩
  have HPL : Hid (∀ W, Calls Try.prog 127 #[.int .i64 ((z.used : Int) + 1)] W fun x w' => x = .returned (.tuple #[.int .i64 (lg (z.used + 1) : Int), .int .i64 (pk (z.used + 1) : Int)]) ∧ ∃ n, w' = W.drewN n) := Lib.hid (fun W => place_any (z.used + 1) (by omega) (by omega) W)
  obtain ⟨d1, d2, d3, d4, d5, d6⟩ := h.col
  have hb := h.obj.setCell 2 (.int .i64 ((z.used : Int) + 1))
  simp at hb
  have hs : Step [c1, c2] w O (w.setCell ⟨a, 2, none⟩ (.int .i64 ((z.used : Int) + 1))) O := (Step.refl [c1, c2] w O).setCell (p := ⟨a, 2, none⟩) (.inl (by simp [h.obj.2])) _
  have hw : wrap64 ((z.used : Int) + 1) = (z.used : Int) + 1 := by unfold wrap64; omega
  have hwi : IntKind.i64.wrap ((z.used : Int) + 1) = (z.used : Int) + 1 := by rw [IntKind.wrap_i64]; omega
  obtain ⟨hn1, hn2, hn3⟩ := hn
  have hs1 : Step [c1] w O (w.setCell ⟨a, 2, none⟩ (.int .i64 ((z.used : Int) + 1))) O := (Step.refl [c1] w O).setCell (p := ⟨a, 2, none⟩) (.inl (by simp [h.obj.2])) _
  have HPG := Lib.hid (fun (n : Nat) (W3 : World) (N g cap : Nat) (cells : Array Value) (o : Obj) (hN : N = psz z.cells (Lib.bitLen z.used)) (hsz : cells.size = 2 * N) => h.paged (W0 := ((w.setCell ⟨a, 2, none⟩ (.int .i64 ((z.used : Int) + 1))).drewN n).drew) (W3 := W3) (g := g) (cap := cap) (o := o) hF hl v hn1 hN hsz (hs1.drewN n).drew (hb.step (((Step.refl [] _ O).drewN n).drew) (by simp)))
  have HROW : Hid (∀ W', Below (w.setCell ⟨a, 2, none⟩ (.int .i64 ((z.used : Int) + 1))).heap.size (w.setCell ⟨a, 2, none⟩ (.int .i64 ((z.used : Int) + 1))) W' → W'.ownsRow 0 198 1 (.slice AP (Lib.bitLen z.used) pp) (Lib.bitLen z.used) (pgs B z.cells (Lib.bitLen z.used))) := Lib.hid (fun W' hW => by
    have := ((h.pages.step hs1 (by simp; omega)).step (Step.of_below_same hW O) (by simp)).row
    rw [hlen] at this
    exact this)
  have HO : Hid (∀ W', Below (w.setCell ⟨a, 2, none⟩ (.int .i64 ((z.used : Int) + 1))).heap.size (w.setCell ⟨a, 2, none⟩ (.int .i64 ((z.used : Int) + 1))) W' → W'.cell? ⟨a, 0, none⟩ = some (.int .i64 (z.cells : Int)) ∧ W'.cell? ⟨a, 1, none⟩ = some (.slice AP (Lib.bitLen z.used) pp) ∧ W'.cell? ⟨a, 2, none⟩ = some (.int .i64 ((z.used : Int) + 1))) := Lib.hid (fun W' hW => by
    have := four_cells (hb.step (Step.of_below_same hW O) (by simp)).1
    exact ⟨this.1, this.2.1, this.2.2.1⟩)
  have q1 : decide ((lg (z.used + 1) : Int) = (Lib.bitLen z.used : Int)) = true := by rw [decide_eq_true_eq]; omega
  have q2 : (lg (z.used + 1) : Int) = (Lib.bitLen z.used : Int) := by omega
  have hps : psz z.cells (Lib.bitLen z.used) = min (z.used + 1) (z.cells - z.used) := by
    unfold psz
    rw [hn2] at hn3
    rw [← hn3]
    omega
  rw [hn2] at HPL
  have w7 : wrap64 ((z.cells : Int) - ((z.used : Int) + 1)) = (z.cells : Int) - ((z.used : Int) + 1) := by unfold wrap64; omega
  have w8 : wrap64 ((z.cells : Int) - ((z.used : Int) + 1) + 1) = (z.cells : Int) - ((z.used : Int) + 1) + 1 := by unfold wrap64; omega
  have f1 : ∀ W', Below (w.setCell ⟨a, 2, none⟩ (.int .i64 ((z.used : Int) + 1))).heap.size (w.setCell ⟨a, 2, none⟩ (.int .i64 ((z.used : Int) + 1))) W' → W'.frozen? ⟨a, 1, none⟩ = false := fun W' hW => (hb.step (Step.of_below_same hW O) (by simp)).free 1
  have HF1 := Lib.hid f1
  have HGR := Lib.hid (fun (n : Nat) (W3 : World) (o1 o2 : Obj) (hg : ((((w.setCell ⟨a, 2, none⟩ (.int .i64 ((z.used : Int) + 1))).drewN n).drew.alloc o1).alloc o2).grownBy W3 (Value.slice AP (Lib.bitLen z.used) pp).ownBlock) => (hb.step ((Step.refl [] _ O).drewN n).drew (by simp)).step (((((Step.refl [c2] _ O).alloc o1).alloc o2).grown hg (fun k hk => .inl (by simp [h.pages.paint k hk]))) : Step [c2] ((w.setCell ⟨a, 2, none⟩ (.int .i64 ((z.used : Int) + 1))).drewN n).drew O W3 O) (by simp; omega))
  have hnp : Lib.bitLen z.used ≤ 64 := by
    have := lg_spec (i := z.used + 1) (by omega) (by omega)
    omega
  have hu2 := Lib.hid hu
  clear h hlen hs hs1 hb hn1 hn2 hn3 hF f1 q1 hu
  generalize pgs B z.cells (Lib.bitLen z.used) = PG at *
  generalize psz z.cells (Lib.bitLen z.used) = NS at *
  generalize pk (z.used + 1) = P at *
  have hexp : (if IntKind.i64.wrap (IntKind.i64.wrap ((z.cells : Int) - ((z.used : Int) + 1)) + 1) < (z.used : Int) + 1 then IntKind.i64.wrap (IntKind.i64.wrap ((z.cells : Int) - ((z.used : Int) + 1)) + 1) else (z.used : Int) + 1) = (NS : Int) := by
    have e1 : IntKind.i64.wrap ((z.cells : Int) - ((z.used : Int) + 1)) = (z.cells : Int) - ((z.used : Int) + 1) := by rw [IntKind.wrap_i64]; omega
    have e2 : IntKind.i64.wrap ((z.cells : Int) - ((z.used : Int) + 1) + 1) = (z.cells : Int) - ((z.used : Int) + 1) + 1 := by rw [IntKind.wrap_i64]; omega
    rw [e1, e2]
    split <;> omega
  have HEXP := Lib.hid hexp
  have hns : NS ≤ 1000000000001 := by have := hu2.out; omega
  have HNS := Lib.hid hns
  have HPSZ := Lib.hid hps
  clear hexp hns w7 w8 hps
  go_enter Try.func118, Try.ntmps118
  go_wp2_with fail
  refine (HPL.out _).mono ?_
  rintro x w1 ⟨rfl, n, rfl⟩
  have hB : Below (w.setCell ⟨a, 2, none⟩ (.int .i64 ((z.used : Int) + 1))).heap.size (w.setCell ⟨a, 2, none⟩ (.int .i64 ((z.used : Int) + 1))) ((w.setCell ⟨a, 2, none⟩ (.int .i64 ((z.used : Int) + 1))).drewN n) := ⟨rfl, rfl, rfl, Nat.le_refl _, fun _ _ => rfl⟩
  have hB2 : Below (w.setCell ⟨a, 2, none⟩ (.int .i64 ((z.used : Int) + 1))).heap.size (w.setCell ⟨a, 2, none⟩ (.int .i64 ((z.used : Int) + 1))) ((w.setCell ⟨a, 2, none⟩ (.int .i64 ((z.used : Int) + 1))).drewN n).drew := ⟨rfl, rfl, rfl, Nat.le_refl _, fun _ _ => rfl⟩
  have HB2 := Lib.hid hB2
  have HPG2 := Lib.hid (HPG.out n)
  have HGR2 := Lib.hid (HGR.out n)
  obtain ⟨g0, g1, g2⟩ := HO.out _ hB
  obtain ⟨e0, e1, e2⟩ := HO.out _ hB2
  clear HPG HGR hB hB2 HPL o0 o1 o2 o3
  go_upto_region 9 with (fail)
  generalize HW : ((w.setCell ⟨a, 2, none⟩ (.int .i64 ((z.used : Int) + 1))).drewN n) = W at *
  have HMK := Lib.hid (make_page (NS : Int) (by omega) (by have := HNS.out; omega) W.drew)
  rw [show (NS : Int).toNat = NS from rfl] at HMK
  have HROW2 := Lib.hid (HROW.out _ HB2.out)
  have HBW := Lib.hid HB2.out
  refine Tail.region_head (fun W' => W'.cell? ⟨a, 0, none⟩ = some (.int .i64 (z.cells : Int)) ∧ W'.cell? ⟨a, 1, none⟩ = some (.slice AP (Lib.bitLen z.used) pp) ∧ W'.cell? ⟨a, 2, none⟩ = some (.int .i64 ((z.used : Int) + 1))) 23 3 #[true, true, true, true, true, true, true, true, true, true, true, true, true, true, true, true, true, true, true, true, true, true, true, false, false, false] (by kernel_rfl) ⟨by kernel_rfl, by decide, by kernel_rfl, by kernel_rfl, by kernel_rfl⟩ (by kernel_rfl) ⟨e0, e1, e2⟩ (fun ok hHeld => ?_)
  refine Tail.Lst.mk [0, 1, 2, 3, 4, 5, 6, 7, 8, 9, 10, 11, 12, 13, 14, 15, 16, 17, 18, 19] ?_
  iterate 20 (refine Tail.Lst.takeT ok rfl (v := ?_) (Or.inl ⟨by rfl, ?_⟩) ?_; rotate_left; (next => intro w hSw; (try dsimp only at hSw); go_simp; (try with_reducible rfl)); simp only [Act.put, List.getElem_toArray, List.getElem_cons_succ, List.getElem_cons_zero, List.setIfInBounds_toArray, List.set])
  refine Tail.Lst.nil ?_
  rw [HEXP.out]
  refine Tail.head_ready (rs := [20]) (by kernel_rfl) (by simp) (by kernel_rfl) ?_
  refine Tail.AllHead.cons rfl (fun K hK => ?_) Tail.AllHead.nil
  have hmk := HMK.out
  go_simp
  have hB3 := HBW.out.alloc HBW.out.size (.cells (madeCells #[.pointer none, .bool false] (NS * 2)) 186)
  refine hK.out _ _ (HO.out _ hB3) (fun hHeld => ?_)
  clear hK K hmk
  try simp only [Act.put, List.getElem_toArray, List.getElem_cons_succ, List.getElem_cons_zero, List.setIfInBounds_toArray, List.set]
  refine Tail.head_ready (rs := [21]) (by kernel_rfl) (by simp) (by kernel_rfl) ?_
  refine Tail.AllHead.cons rfl (fun K hK => ?_) Tail.AllHead.nil
  go_simp
  have hB4 := hB3.alloc hB3.size (.cells #[.slice (some ⟨W.heap.size, 0, none⟩) NS NS] 198)
  refine hK.out _ _ (HO.out _ hB4) (fun hHeld => ?_)
  clear hK K
  try simp only [Act.put, List.getElem_toArray, List.getElem_cons_succ, List.getElem_cons_zero, List.setIfInBounds_toArray, List.set]
  refine Tail.head_ready (rs := [22]) (by kernel_rfl) (by simp) (by kernel_rfl) ?_
  refine Tail.AllHead.cons rfl (fun K hK => ?_) Tail.AllHead.nil
  obtain ⟨i0, hi, hz0, hz1, hz2⟩ := info_parts infoPage
  have hnw := one_new (W.drew.alloc (.cells (madeCells #[.pointer none, .bool false] (NS * 2)) 186)) (.slice (some ⟨W.heap.size, 0, none⟩) NS NS) 198
  rw [World.size_alloc] at hnw
  refine step_append1 _ rfl (.tmp 58) (.tmp 75) 157 rfl 198 i0 (.slice none 0 0) 1 24 Try.underlying157 hi hz0 hz1 hz2 rfl (by decide) (.slice AP (Lib.bitLen z.used) pp) (Lib.bitLen z.used) PG rfl (HROW.out _ hB4) _ 1 1 (by decide) [.slice (some ⟨W.heap.size, 0, none⟩) NS NS] rfl rfl hnw (by intro u hu; simp at hu; subst hu; rfl) (by unfold maxLen; omega) (by omega) ?_
  intro g cap W3 hown hgr hmv
  have ho3 := HGR2.out W3 _ _ hgr
  have HRES := Lib.hid (HPG2.out W3 NS g cap _ _ rfl (by rw [size_madeCells]; omega) hown hgr hmv)
  clear hown hgr hmv hnw
  obtain ⟨o0, o1, o2, o3⟩ := four_cells ho3.1
  have f1 := ho3.free 1
  refine hK.out _ _ ⟨o0, o1, o2⟩ (fun hHeld => ?_)
  clear hK K ho3
  try simp only [Act.put, List.getElem_toArray, List.getElem_cons_succ, List.getElem_cons_zero, List.setIfInBounds_toArray, List.set]
  refine Tail.head_done rfl ?_
  refine wpAny_ready (rs := [23]) (by kernel_rfl) (by simp) ?_
  refine AllReady.cons rfl (fun K hK => ?_) AllReady.nil
  go_simp
  refine hK _ _ ?_
  clear hK K
  try simp only [Act.put, List.getElem_toArray, List.getElem_cons_succ, List.getElem_cons_zero, List.setIfInBounds_toArray, List.set]
  refine wpAny_ready (rs := [24]) (by kernel_rfl) (by simp) ?_
  refine AllReady.cons rfl (fun K hK => ?_) AllReady.nil
  go_simp
  refine hK _ _ ?_
  clear hK K
  try simp only [Act.put, List.getElem_toArray, List.getElem_cons_succ, List.getElem_cons_zero, List.setIfInBounds_toArray, List.set]
  refine wpAny_ready (rs := [25]) (by kernel_rfl) (by simp) ?_
  refine AllReady.cons rfl (fun K hK => ?_) AllReady.nil
  go_simp
  refine hK _ _ ?_
  clear hK K
  try simp only [Act.put, List.getElem_toArray, List.getElem_cons_succ, List.getElem_cons_zero, List.setIfInBounds_toArray, List.set]
  refine wpAny_done (by kernel_rfl) ?_ _
  have o2' := o2
  go_wp2_with fail
  go_ret
  obtain ⟨O', B', A', r1, r2⟩ := HRES.out
  exact ⟨rfl, O', B', A', _, r1, r2⟩
-- END page
-- BEGIN take
theorem next_any (h : ArenaAt w O c1 c2 c3 c4 a 159 198 186 z 0 B A vp vf) (hleft : z.F ≠ [] ∨ z.used < z.cells) (hu : z.used ≤ 1000000000) (v : Value) : Calls Try.prog 118 #[.pointer (some ⟨a, 0, none⟩)] w fun x w' => x = .returned (.int .i64 (z.next : Int)) ∧ ∃ O' B' A' vp' vf', Step [c1, c2] w O w' O' ∧ ArenaAt w' O' c1 c2 c3 c4 a 159 198 186 (z.take v) z.next B' A' vp' vf' ∧ 1 ≤ z.next ∧ z.next ≤ (z.take v).used := by
  by_cases hF : z.F = []
  · have hl : z.used < z.cells := by rcases hleft with h1 | h1; exact absurd hF h1; exact h1
    obtain ⟨t1, t2, t3, t4⟩ := take_new h.ok hF hl v
    rw [t1, t3]
    have hm := h.ok.most
    rcases bl_next (u := z.used) (by omega) with hn | hn
    · refine (next_old h hF hl v hn).mono ?_
      rintro x w' ⟨rfl, O', B', A', vp', hs, hA⟩
      exact ⟨rfl, O', B', A', vp', vf, hs, hA, by omega, Nat.le_refl _⟩
    · refine (next_page h hF hl hu v hn).mono ?_
      rintro x w' ⟨rfl, O', B', A', vp', hs, hA⟩
      exact ⟨rfl, O', B', A', vp', vf, hs, hA, by omega, Nat.le_refl _⟩
  · obtain ⟨l, i, hli⟩ : ∃ l i, z.F = l ++ [i] := ⟨z.F.dropLast, z.F.getLast hF, (List.dropLast_concat_getLast hF).symm⟩
    obtain ⟨t1, t2, t3, t4, t5, t6⟩ := take_free h.ok hli v
    rw [t1, t3]
    refine (next_free h hli v).mono ?_
    rintro x w' ⟨rfl, O', vf', hs, hA⟩
    exact ⟨rfl, O', B, A, vp, vf', hs.mono (by simp), hA, t5, t6⟩
set_option maxRecDepth 100000 in
theorem take_none (h : ArenaAt w O c1 c2 c3 c4 a 159 198 186 z 0 B A vp vf) (hl : z.left = 0) (v : Value) : Calls Try.prog 98 #[.pointer (some ⟨a, 0, none⟩), v] w fun x w' => x = .returned (.tuple #[.int .i64 0, .bool false]) ∧ ∃ n, w' = w.drewN n := by
  have HL := Lib.hid (left_any h)
  rw [hl] at HL
  clear h
  go_enter Try.func98, Try.ntmps98
  go_wp2_with fail
  refine HL.out.mono ?_
  rintro x w1 ⟨rfl, n, rfl⟩
  go_wp2_with fail
  go_ret2
  exact ⟨rfl, n, rfl⟩
set_option maxRecDepth 100000 in
theorem take_any (h : ArenaAt w O c1 c2 c3 c4 a 159 198 186 z 0 B A vp vf) (hl : z.left ≠ 0) (hu : z.used ≤ 1000000000) (tv : Option Addr) : Calls Try.prog 98 #[.pointer (some ⟨a, 0, none⟩), .pointer tv] w fun x w' => x = .returned (.tuple #[.int .i64 (z.next : Int), .bool true]) ∧ ∃ O' B' A' vp' vf', Step [c1, c2, c4] w O w' O' ∧ ArenaAt w' O' c1 c2 c3 c4 a 159 198 186 (z.take (.pointer tv)) 0 B' A' vp' vf' := by
  have HL := Lib.hid (left_any h)
  have hleft : z.F ≠ [] ∨ z.used < z.cells := by
    by_cases hF : z.F = []
    · right
      have := h.ok.le
      unfold Aren.left at hl
      rw [hF] at hl
      simp at hl
      omega
    · exact .inl hF
  have HN := Lib.hid (fun n => next_any (drewN_at h n) hleft hu (.pointer tv))
  have h0 : (z.left == 0) = false := by simpa using hl
  have h1 : decide (z.left = 0) = false := decide_eq_false hl
  generalize z.left = LF at *
  go_enter Try.func98, Try.ntmps98
  go_wp2_with fail
  refine HL.out.mono ?_
  rintro x w1 ⟨rfl, n, rfl⟩
  have HS0 := Lib.hid (show Step [c1, c2] w O (w.drewN n) O from (Step.refl _ w O).drewN n)
  clear HL h
  go_wp2_with fail
  refine (HN.out n).mono ?_
  rintro x w2 ⟨rfl, O2, B2, A2, vp2, vf2, hs2, hA2, hn1, hn2⟩
  have HC := Lib.hid (cell_any hA2 hn1 hn2)
  have HQ := Lib.hid (fun m => And.intro ((drewN_at hA2 m).put (z' := z.take (.pointer tv)) hn1 hn2 (.pointer tv) true (by show _ = (⟨_, _, upd (upd z.C z.next (.pointer tv, true)) z.next (.pointer tv, true), _⟩ : Aren); rw [upd_upd]; rfl) hA2.ok) ((drewN_at hA2 m).some hn1 hn2))
  have HS2 := Lib.hid (HS0.out.trans hs2)
  clear hs2 hA2 hn1 hn2 HN HS0
  go_wp2_with fail
  refine HC.out.mono ?_
  rintro x w3 ⟨rfl, m, rfl⟩
  obtain ⟨⟨q1, q2⟩, ⟨u, u', r1, r2⟩, f1, f2⟩ := HQ.out m
  have HR := Lib.hid (And.intro (((HS2.out.drewN m).mono (ds := [c1, c2, c4]) (by intro c hc; simp at hc ⊢; omega)).trans (q1.mono (by intro c hc; simp at hc ⊢; omega))) (q2 0 (by simp)))
  clear q1 q2 HC HQ HS2
  go_wp2_with fail
  go_ret2
  exact ⟨rfl, O2, B2, _, vp2, vf2, HR.out.1, HR.out.2⟩
set_option maxRecDepth 100000 in
theorem take_nil (v : Value) (w : World) : Calls Try.prog 98 #[.pointer none, v] w fun x w' => x = .returned (.tuple #[.int .i64 0, .bool false]) ∧ w = w' := by
  have HL := Lib.hid (left_nil w)
  go_enter Try.func98, Try.ntmps98
  go_wp2_with fail
  refine HL.out.mono ?_
  rintro x w1 ⟨rfl, rfl⟩
  go_wp2_with fail
  go_ret2
  exact ⟨rfl, rfl⟩
-- END take
end
end Go.Proofs.Yteacmcckhjabmaa.At
