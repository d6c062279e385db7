/-
  The walk of the statement LazyParses: for every text, window and cut it returns true, and writes nothing that was there.
-/
import Derived.Test.YthdjnbhdgacmgaaLazyLaws
import Derived.Test.YthdjnbhdgacmgaaGreedyRef
import Derived.Deep.RegionHeld3
set_option linter.unusedVariables false
set_option linter.unusedSimpArgs false
namespace Go.Proofs.Ythdjnbhdgacmgaa.Gr
open Go.RowKit
open Mt
open Ch (foundL bt bt_at bt_lt)
open Pk (Rp Pt IsPts repL rrep eq_pt flatP)
theorem wait_cases (s : ByteArray) (window cut : Int) (k : Nat) :
    (((best s window cut k).1 = 0 ∨ (best s window cut k).1 < (best s window cut (k + 1)).1) ∧ pkt s k (wait s window cut k) = ⟨1, 0, 0, bt s k⟩ ∧ size1 (wait s window cut k) = 1) ∨
    ((best s window cut k).1 ≠ 0 ∧ ¬ (best s window cut k).1 < (best s window cut (k + 1)).1 ∧ pkt s k (wait s window cut k) = ⟨2, ((best s window cut k).2 : Int), ((best s window cut k).1 : Int), 0⟩ ∧ size1 (wait s window cut k) = (best s window cut k).1) := by
  unfold wait
  by_cases h : (best s window cut k).1 < (best s window cut (k + 1)).1
  · left; rw [if_pos h]; exact ⟨.inr h, rfl, rfl⟩
  · rw [if_neg h]
    rcases best_ok s window cut k with h0 | ⟨h3, _⟩
    · left; rw [h0]; exact ⟨.inl rfl, rfl, rfl⟩
    · right
      have hne : best s window cut k ≠ (0, 0) := fun e => by rw [e] at h3; simp at h3
      refine ⟨by omega, h, ?_, ?_⟩
      · unfold pkt; rw [if_neg hne]
      · unfold size1; rw [if_neg hne]
set_option maxRecDepth 100000 in
set_option maxHeartbeats 8000000 in
theorem lparses_walk (t : ByteArray) (window cut : Int) (w : World) (ht : t.size ≤ maxLen) (hw0 : -9223372036854775808 ≤ window) (hw1 : window ≤ 9223372036854775807) (hc1 : cut ≤ 9223372036854775807) :
    Calls Try.prog 6 #[.string t, .int .i64 window, .int .i64 cut] w fun x w' => x = .returned (.bool true) ∧ Below w.heap.size w w' := by
  unfold maxLen at ht
  go_enter Try.func6, Try.ntmps6
  go_wp2_with fail
  refine (speaks14 w).mono ?_
  rintro x w1 ⟨rfl, hb1⟩
  have HB1 := Lib.hid hb1
  clear hb1
  go_upto_region 4 with (fail)
  have hus : (t.extract 0 (if (160 : Int) < (t.size : Int) then (160 : Int) else (t.size : Int)).toNat).size ≤ 160 := by
    split <;> simp <;> omega
  generalize (if (160 : Int) < (t.size : Int) then (160 : Int) else (t.size : Int)) = mn at *
  generalize t.extract 0 mn.toNat = s at *
  have HG := Lib.hid (fun W => lazy_any s window cut W (by omega) hw0 hw1 hc1)
  have HLO := Lib.hid (fun k (hk : k ≤ s.size) W => rlongest_any s k window cut hk (by omega) W)
  have HC := Lib.hid (wait_ok s window cut)
  have HW := Lib.hid (wait_cases s window cut)
  have HTF := Lib.hid (told_facts (wait_ok s window cut) (show s.size ≤ 1048576 by omega))
  have HBE : Hid (best s window cut s.size = (0, 0)) := Lib.hid (best_end (Nat.le_refl _))
  have HPV : Hid (∀ x : Nat × Nat, pv x = .agg #[.int .i64 (x.1 : Int), .int .i64 (x.2 : Int)]) := Lib.hid (fun x => rfl)
  have HL0 : Hid (RfAt w w1 (.slice none 0 0) []) := Lib.hid ⟨World.ownsRow_nil _ _ _ _, HB1.out, fun k hk => by simp [Value.ownBlock] at hk⟩
  obtain ⟨i0, hi, hz0, hz1, hz2⟩ := info_parts Pk.infoPr
  have HI := Lib.hid hi
  have HZ0 := Lib.hid hz0
  have HZ1 := Lib.hid hz1
  have HZ2 := Lib.hid hz2
  clear hi hz0 hz1 hz2 hw0 hw1 hc1 HB1
  generalize wait s window cut = c at *
  generalize best s window cut = bs at *
  go_wp2_with fail
  go_loopw [7, 8] (fun v i wr => ∃ (k : Nat) (l : List Pt), k ≤ s.size ∧ i = .int .i64 k ∧ RfAt w wr v l ∧ l ++ parse s c k = parse s c 0 ∧ l.length ≤ k) (fun _ i _ => s.size - (intOf i).toNat)
  case atStart => exact ⟨0, [], by omega, rfl, HL0.out, rfl, by simp⟩
  case round =>
    clear HL0
    obtain ⟨k, l, hk, rfl, hL, hE, hll⟩ := hrel
    obtain ⟨wo, rfl⟩ : ∃ wo : World, wo = wr := ⟨_, rfl⟩
    by_cases hlt : k < s.size
    · as_aux_lemma =>
      have HE := Lib.hid (show (l ++ [pkt s k (c k)]) ++ parse s c (k + size1 (c k)) = parse s c 0 by rw [← hE, parse_more HC.out hlt]; simp)
      have h1 := size1_pos (HC.out k)
      have h2 := size1_le hlt (HC.out k)
      have HL1 := Lib.hid (HLO.out k hk wo)
      have HL2 := Lib.hid (fun (h : k + 1 ≤ s.size) W => HLO.out (k + 1) h W)
      rw [HPV.out] at HL1 HL2
      have hbk := bt_at hlt
      have HL := Lib.hid hL
      have hm1 : l.length + 1 ≤ maxLen := by unfold maxLen; omega
      have hm2 : (l.length + 1) * 32 ≤ 140737488355328 := by omega
      have hcas := HW.out k
      have HB2 : Hid (k + 1 = s.size → (bs (k + 1)).1 = 0) := Lib.hid (fun e => by rw [e, HBE.out])
      clear hE hL HPV HLO HW HC HTF HBE HG
      generalize pkt s k (c k) = pk at *
      generalize size1 (c k) = sz at *
      generalize (bs k).2 = xd at *
      generalize (bs k).1 = xn at *
      generalize (bs (k + 1)).2 = yd at *
      generalize (bs (k + 1)).1 = yn at *
      go_wp2_with fail
      refine HL1.out.mono ?_
      rintro x w3 ⟨rfl, hb3⟩
      have hL3 := HL.out.news hb3
      have hb4 : Below w3.heap.size w3 (w3.alloc (.cells #[.int .i64 (xn : Int), .int .i64 (xd : Int)] 54)) := (Below.refl _ _).alloc (Nat.le_refl _) _
      have hL4 := hL3.news hb4
      have hx4 := heap_alloc_new w3 (.cells #[.int .i64 (xn : Int), .int .i64 (xd : Int)] 54)
      clear hb3 hL3 hb4 HL1 HL
      go_upto_region 8 with (fail)
      generalize w3.alloc (.cells #[.int .i64 (xn : Int), .int .i64 (xd : Int)] 54) = w4 at *
      generalize w3.heap.size = X at *
      obtain ⟨⟨p0, p1⟩, _, _, hXl⟩ := two_cells hx4
      have HL4 := Lib.hid hL4
      have HX4 := Lib.hid hx4
      have e1 : (0 : Int) ≤ (k : Int) := by omega
      have e2 : (k : Int) < (s.size : Int) := by omega
      clear hL4 hx4
      go_cut [10] (fun b wc => b = .bool (decide ((xn : Int) < (yn : Int))) ∧ Below w4.heap.size w4 wc)
      case first =>
        by_cases hg : k + 1 < s.size
        · have hw1 : IntKind.i64.wrap ((k : Int) + 1) = (k : Int) + 1 := by rw [IntKind.wrap_i64]; omega
          have hd : decide (IntKind.i64.wrap ((k : Int) + 1) < (s.size : Int)) = true := by rw [hw1, decide_eq_true_eq]; omega
          have HL3 := Lib.hid (HL2.out (by omega))
          have hfd : ∀ w : World, (Instr.field 54 (.agg #[.int .i64 (yn : Int), .int .i64 (yd : Int)]) 0).run Try.prog w = .ok (.int .i64 (yn : Int)) w := fun w => by kernel_rfl
          have HS : Hid (∀ W', Below w4.heap.size w4 W' → Below w4.heap.size w4 W' ∧ (W'.cell? ⟨X, 0, none⟩ = some (.int .i64 (xn : Int)))) := Lib.hid (fun W' hb => ⟨hb, (two_cells ((hb.block X hXl).trans HX4.out)).1.1⟩)
          have S0 : Below w4.heap.size w4 w4.drew := Pk.bel_drew (Below.refl _ _)
          refine wp_region_held_drew (S := (fun W' => Below w4.heap.size w4 W' ∧ (W'.cell? ⟨X, 0, none⟩ = some (.int .i64 (xn : Int))))) (by kernel_rfl) (HS.out _ S0) (fun hHeld => ?_)
          refine wpAnyH_take (i := 0) (v := ?tv14) rfl (by kernel_rfl) (by kernel_rfl) (by kernel_rfl) (fun _ _ _ h => h) (Or.inl ⟨by rfl, ?th14⟩) (by assumption) ?tr14
          case th14 => (intro w hSw; (try dsimp only at hSw); go_simp;  (try with_reducible rfl))
          try simp only [Array.getInternal_eq_getElem, List.getElem_toArray, List.getElem_cons_zero, List.getElem_cons_succ]
          try simp only [Act.put, List.setIfInBounds_toArray, List.set_cons_zero, List.set_cons_succ]
          refine wpAnyH_take (i := 1) (v := Value.int .i64 ((k : Int) + 1)) rfl (by kernel_rfl) (by kernel_rfl) (by kernel_rfl) (fun _ _ _ h => h) (Or.inl ⟨by rfl, ?th15⟩) (by assumption) ?tr15
          case th15 => (intro w hSw; (try dsimp only at hSw); go_simp; (try rw [hw1]); (try with_reducible rfl))
          try simp only [Array.getInternal_eq_getElem, List.getElem_toArray, List.getElem_cons_zero, List.getElem_cons_succ]
          try simp only [Act.put, List.setIfInBounds_toArray, List.set_cons_zero, List.set_cons_succ]
          refine wpAnyH_take (i := 2) (v := ?tv16) rfl (by kernel_rfl) (by kernel_rfl) (by kernel_rfl) (fun _ _ _ h => h) (Or.inl ⟨by rfl, ?th16⟩) (by assumption) ?tr16
          case th16 => (intro w hSw; (try dsimp only at hSw); go_simp;  (try with_reducible rfl))
          try simp only [Array.getInternal_eq_getElem, List.getElem_toArray, List.getElem_cons_zero, List.getElem_cons_succ]
          try simp only [Act.put, List.setIfInBounds_toArray, List.set_cons_zero, List.set_cons_succ]
          refine wpAnyH_take (i := 3) (v := ?tv17) rfl (by kernel_rfl) (by kernel_rfl) (by kernel_rfl) (fun _ _ _ h => h) (Or.inl ⟨by rfl, ?th17⟩) (by assumption) ?tr17
          case th17 => (intro w hSw; (try dsimp only at hSw); go_simp;  (try with_reducible rfl))
          try simp only [Array.getInternal_eq_getElem, List.getElem_toArray, List.getElem_cons_zero, List.getElem_cons_succ]
          try simp only [Act.put, List.setIfInBounds_toArray, List.set_cons_zero, List.set_cons_succ]
          refine wpAnyH_take (i := 4) (v := Value.bool true) rfl (by kernel_rfl) (by kernel_rfl) (by kernel_rfl) (fun _ _ _ h => h) (Or.inl ⟨by rfl, ?th18⟩) (by assumption) ?tr18
          case th18 => (intro w hSw; (try dsimp only at hSw); go_simp; (try omega); (try with_reducible rfl))
          try simp only [Array.getInternal_eq_getElem, List.getElem_toArray, List.getElem_cons_zero, List.getElem_cons_succ]
          try simp only [Act.put, List.setIfInBounds_toArray, List.set_cons_zero, List.set_cons_succ]
          refine wpAnyH_take (i := 5) (v := ?tv19) rfl (by kernel_rfl) (by kernel_rfl) (by kernel_rfl) (fun _ _ _ h => h) (Or.inl ⟨by rfl, ?th19⟩) (by assumption) ?tr19
          case th19 => (intro w hSw; (try dsimp only at hSw); go_simp;  (try with_reducible rfl))
          try simp only [Array.getInternal_eq_getElem, List.getElem_toArray, List.getElem_cons_zero, List.getElem_cons_succ]
          try simp only [Act.put, List.setIfInBounds_toArray, List.set_cons_zero, List.set_cons_succ]
          refine wpAnyH_take (i := 6) (v := ?tv20) rfl (by kernel_rfl) (by kernel_rfl) (by kernel_rfl) (fun _ _ _ h => h) (Or.inl ⟨by rfl, ?th20⟩) (by assumption) ?tr20
          case th20 => (intro w hSw; (try dsimp only at hSw); go_simp;  (try with_reducible rfl))
          try simp only [Array.getInternal_eq_getElem, List.getElem_toArray, List.getElem_cons_zero, List.getElem_cons_succ]
          try simp only [Act.put, List.setIfInBounds_toArray, List.set_cons_zero, List.set_cons_succ]
          refine wpAnyH_take (i := 7) (v := ?tv21) rfl (by kernel_rfl) (by kernel_rfl) (by kernel_rfl) (fun _ _ _ h => h) (Or.inl ⟨by rfl, ?th21⟩) (by assumption) ?tr21
          case th21 => (intro w hSw; (try dsimp only at hSw); go_simp;  (try with_reducible rfl))
          try simp only [Array.getInternal_eq_getElem, List.getElem_toArray, List.getElem_cons_zero, List.getElem_cons_succ]
          try simp only [Act.put, List.setIfInBounds_toArray, List.set_cons_zero, List.set_cons_succ]
          refine wpAnyH_take (i := 8) (v := Value.int .i64 ((k : Int) + 1)) rfl (by kernel_rfl) (by kernel_rfl) (by kernel_rfl) (fun _ _ _ h => h) (Or.inl ⟨by rfl, ?th22⟩) (by assumption) ?tr22
          case th22 => (intro w hSw; (try dsimp only at hSw); go_simp; (try rw [hw1]); (try with_reducible rfl))
          try simp only [Array.getInternal_eq_getElem, List.getElem_toArray, List.getElem_cons_zero, List.getElem_cons_succ]
          try simp only [Act.put, List.setIfInBounds_toArray, List.set_cons_zero, List.set_cons_succ]
          refine wpAnyH_take (i := 9) (v := ?tv23) rfl (by kernel_rfl) (by kernel_rfl) (by kernel_rfl) (fun _ _ _ h => h) (Or.inl ⟨by rfl, ?th23⟩) (by assumption) ?tr23
          case th23 => (intro w hSw; (try dsimp only at hSw); go_simp;  (try with_reducible rfl))
          try simp only [Array.getInternal_eq_getElem, List.getElem_toArray, List.getElem_cons_zero, List.getElem_cons_succ]
          try simp only [Act.put, List.setIfInBounds_toArray, List.set_cons_zero, List.set_cons_succ]
          refine wpAnyH_take (i := 10) (v := ?tv24) rfl (by kernel_rfl) (by kernel_rfl) (by kernel_rfl) (fun _ _ _ h => h) (Or.inl ⟨by rfl, ?th24⟩) (by assumption) ?tr24
          case th24 => (intro w hSw; (try dsimp only at hSw); go_simp;  (try with_reducible rfl))
          try simp only [Array.getInternal_eq_getElem, List.getElem_toArray, List.getElem_cons_zero, List.getElem_cons_succ]
          try simp only [Act.put, List.setIfInBounds_toArray, List.set_cons_zero, List.set_cons_succ]
          refine wpAnyH_take (i := 13) (v := ?tv25) rfl (by kernel_rfl) (by kernel_rfl) (by kernel_rfl) (fun _ _ _ h => h) (Or.inl ⟨by rfl, ?th25⟩) (by assumption) ?tr25
          case th25 => (intro w hSw; (try dsimp only at hSw); go_simp;  (try with_reducible rfl))
          try simp only [Array.getInternal_eq_getElem, List.getElem_toArray, List.getElem_cons_zero, List.getElem_cons_succ]
          try simp only [Act.put, List.setIfInBounds_toArray, List.set_cons_zero, List.set_cons_succ]
          refine wpAnyH_take (i := 14) (v := ?tv26) rfl (by kernel_rfl) (by kernel_rfl) (by kernel_rfl) (fun _ _ _ h => h) (Or.inl ⟨by rfl, ?th26⟩) (by assumption) ?tr26
          case th26 => (intro w hSw; (try dsimp only at hSw); go_simp;  (try with_reducible rfl))
          try simp only [Array.getInternal_eq_getElem, List.getElem_toArray, List.getElem_cons_zero, List.getElem_cons_succ]
          try simp only [Act.put, List.setIfInBounds_toArray, List.set_cons_zero, List.set_cons_succ]
          refine wpAnyH_ready (rs := [11]) (by kernel_rfl) (by simp) ?_
          refine AllReadyH.cons rfl (fun K hK => ?_) AllReadyH.nil
          go_simp
          refine (HL3.out _).mono ?_
          rintro x w6 ⟨rfl, hb6⟩
          refine hK.out _ _ (HS.out _ (Pk.bel_new hb6 S0)) (fun hHeld2 => ?_)
          clear hK K hHeld
          have hHeld := hHeld2
          clear hHeld2
          try simp only [Array.getInternal_eq_getElem, List.getElem_toArray, List.getElem_cons_zero, List.getElem_cons_succ]
          try simp only [Act.put, List.setIfInBounds_toArray, List.set_cons_zero, List.set_cons_succ]
          refine wpAnyH_take (i := 12) (v := Value.int .i64 (yn : Int)) rfl (by kernel_rfl) (by kernel_rfl) (by kernel_rfl) (fun _ _ _ h => h) (Or.inl ⟨by rfl, ?th27⟩) (by assumption) ?tr27
          case th27 => (intro w hSw; (try dsimp only at hSw); go_simp; (try rw [hfd]))
          try simp only [Array.getInternal_eq_getElem, List.getElem_toArray, List.getElem_cons_zero, List.getElem_cons_succ]
          try simp only [Act.put, List.setIfInBounds_toArray, List.set_cons_zero, List.set_cons_succ]
          refine wpAnyH_take (i := 15) (v := Value.bool (decide ((xn : Int) < (yn : Int)))) rfl (by kernel_rfl) (by kernel_rfl) (by kernel_rfl) (fun _ _ _ h => h) (Or.inl ⟨by rfl, ?th28⟩) (by assumption) ?tr28
          case th28 => (intro w hSw; (try dsimp only at hSw); go_simp;  (try with_reducible rfl))
          try simp only [Array.getInternal_eq_getElem, List.getElem_toArray, List.getElem_cons_zero, List.getElem_cons_succ]
          try simp only [Act.put, List.setIfInBounds_toArray, List.set_cons_zero, List.set_cons_succ]
          refine wpAnyH_take (i := 16) (v := Value.bool (decide ((xn : Int) < (yn : Int)))) rfl (by kernel_rfl) (by kernel_rfl) (by kernel_rfl) (fun _ _ _ h => h) (Or.inl ⟨by rfl, ?th29⟩) (by assumption) ?tr29
          case th29 => (intro w hSw; (try dsimp only at hSw); go_simp;  (try with_reducible rfl))
          try simp only [Array.getInternal_eq_getElem, List.getElem_toArray, List.getElem_cons_zero, List.getElem_cons_succ]
          try simp only [Act.put, List.setIfInBounds_toArray, List.set_cons_zero, List.set_cons_succ]
          refine wpAnyH_take (i := 17) (v := ?tv30) rfl (by kernel_rfl) (by kernel_rfl) (by kernel_rfl) (fun _ _ _ h => h) (Or.inl ⟨by rfl, ?th30⟩) (by assumption) ?tr30
          case th30 => (intro w hSw; (try dsimp only at hSw); go_simp;  (try with_reducible rfl))
          try simp only [Array.getInternal_eq_getElem, List.getElem_toArray, List.getElem_cons_zero, List.getElem_cons_succ]
          try simp only [Act.put, List.setIfInBounds_toArray, List.set_cons_zero, List.set_cons_succ]
          refine wpAnyH_done (by kernel_rfl) ?_ _
          go_wp2_with fail
          go_meet
          exact ⟨by first | rfl | simp, Pk.bel_new hb6 S0⟩
        · have hw1 : IntKind.i64.wrap ((k : Int) + 1) = (k : Int) + 1 := by rw [IntKind.wrap_i64]; omega
          have hd : decide (IntKind.i64.wrap ((k : Int) + 1) < (s.size : Int)) = false := by rw [hw1, decide_eq_false_iff_not]; omega
          have hy := HB2.out (by omega)
          have HS : Hid (∀ W', Below w4.heap.size w4 W' → Below w4.heap.size w4 W' ∧ (W'.cell? ⟨X, 0, none⟩ = some (.int .i64 (xn : Int)))) := Lib.hid (fun W' hb => ⟨hb, (two_cells ((hb.block X hXl).trans HX4.out)).1.1⟩)
          have S0 : Below w4.heap.size w4 w4.drew := Pk.bel_drew (Below.refl _ _)
          refine wp_region_held_drew (S := (fun W' => Below w4.heap.size w4 W' ∧ (W'.cell? ⟨X, 0, none⟩ = some (.int .i64 (xn : Int))))) (by kernel_rfl) (HS.out _ S0) (fun hHeld => ?_)
          refine wpAnyH_take (i := 0) (v := ?tv31) rfl (by kernel_rfl) (by kernel_rfl) (by kernel_rfl) (fun _ _ _ h => h) (Or.inl ⟨by rfl, ?th31⟩) (by assumption) ?tr31
          case th31 => (intro w hSw; (try dsimp only at hSw); go_simp;  (try with_reducible rfl))
          try simp only [Array.getInternal_eq_getElem, List.getElem_toArray, List.getElem_cons_zero, List.getElem_cons_succ]
          try simp only [Act.put, List.setIfInBounds_toArray, List.set_cons_zero, List.set_cons_succ]
          refine wpAnyH_take (i := 1) (v := Value.int .i64 ((k : Int) + 1)) rfl (by kernel_rfl) (by kernel_rfl) (by kernel_rfl) (fun _ _ _ h => h) (Or.inl ⟨by rfl, ?th32⟩) (by assumption) ?tr32
          case th32 => (intro w hSw; (try dsimp only at hSw); go_simp; (try rw [hw1]); (try with_reducible rfl))
          try simp only [Array.getInternal_eq_getElem, List.getElem_toArray, List.getElem_cons_zero, List.getElem_cons_succ]
          try simp only [Act.put, List.setIfInBounds_toArray, List.set_cons_zero, List.set_cons_succ]
          refine wpAnyH_take (i := 2) (v := ?tv33) rfl (by kernel_rfl) (by kernel_rfl) (by kernel_rfl) (fun _ _ _ h => h) (Or.inl ⟨by rfl, ?th33⟩) (by assumption) ?tr33
          case th33 => (intro w hSw; (try dsimp only at hSw); go_simp;  (try with_reducible rfl))
          try simp only [Array.getInternal_eq_getElem, List.getElem_toArray, List.getElem_cons_zero, List.getElem_cons_succ]
          try simp only [Act.put, List.setIfInBounds_toArray, List.set_cons_zero, List.set_cons_succ]
          refine wpAnyH_take (i := 3) (v := ?tv34) rfl (by kernel_rfl) (by kernel_rfl) (by kernel_rfl) (fun _ _ _ h => h) (Or.inl ⟨by rfl, ?th34⟩) (by assumption) ?tr34
          case th34 => (intro w hSw; (try dsimp only at hSw); go_simp;  (try with_reducible rfl))
          try simp only [Array.getInternal_eq_getElem, List.getElem_toArray, List.getElem_cons_zero, List.getElem_cons_succ]
          try simp only [Act.put, List.setIfInBounds_toArray, List.set_cons_zero, List.set_cons_succ]
          refine wpAnyH_take (i := 4) (v := Value.bool false) rfl (by kernel_rfl) (by kernel_rfl) (by kernel_rfl) (fun _ _ _ h => h) (Or.inl ⟨by rfl, ?th35⟩) (by assumption) ?tr35
          case th35 => (intro w hSw; (try dsimp only at hSw); go_simp; (try omega); (try with_reducible rfl))
          try simp only [Array.getInternal_eq_getElem, List.getElem_toArray, List.getElem_cons_zero, List.getElem_cons_succ]
          try simp only [Act.put, List.setIfInBounds_toArray, List.set_cons_zero, List.set_cons_succ]
          refine wpAnyH_take (i := 5) (v := ?tv36) rfl (by kernel_rfl) (by kernel_rfl) (by kernel_rfl) (fun _ _ _ h => h) (Or.inl ⟨by rfl, ?th36⟩) (by assumption) ?tr36
          case th36 => (intro w hSw; (try dsimp only at hSw); go_simp;  (try with_reducible rfl))
          try simp only [Array.getInternal_eq_getElem, List.getElem_toArray, List.getElem_cons_zero, List.getElem_cons_succ]
          try simp only [Act.put, List.setIfInBounds_toArray, List.set_cons_zero, List.set_cons_succ]
          refine wpAnyH_take (i := 6) (v := undef) rfl (by kernel_rfl) (by kernel_rfl) (by kernel_rfl) (fun _ _ _ h => h) (Or.inr ⟨by rfl, rfl⟩) (by assumption) ?_
          try simp only [Array.getInternal_eq_getElem, List.getElem_toArray, List.getElem_cons_zero, List.getElem_cons_succ]
          try simp only [Act.put, List.setIfInBounds_toArray, List.set_cons_zero, List.set_cons_succ]
          refine wpAnyH_take (i := 7) (v := undef) rfl (by kernel_rfl) (by kernel_rfl) (by kernel_rfl) (fun _ _ _ h => h) (Or.inr ⟨by rfl, rfl⟩) (by assumption) ?_
          try simp only [Array.getInternal_eq_getElem, List.getElem_toArray, List.getElem_cons_zero, List.getElem_cons_succ]
          try simp only [Act.put, List.setIfInBounds_toArray, List.set_cons_zero, List.set_cons_succ]
          refine wpAnyH_take (i := 8) (v := undef) rfl (by kernel_rfl) (by kernel_rfl) (by kernel_rfl) (fun _ _ _ h => h) (Or.inr ⟨by rfl, rfl⟩) (by assumption) ?_
          try simp only [Array.getInternal_eq_getElem, List.getElem_toArray, List.getElem_cons_zero, List.getElem_cons_succ]
          try simp only [Act.put, List.setIfInBounds_toArray, List.set_cons_zero, List.set_cons_succ]
          refine wpAnyH_take (i := 9) (v := undef) rfl (by kernel_rfl) (by kernel_rfl) (by kernel_rfl) (fun _ _ _ h => h) (Or.inr ⟨by rfl, rfl⟩) (by assumption) ?_
          try simp only [Array.getInternal_eq_getElem, List.getElem_toArray, List.getElem_cons_zero, List.getElem_cons_succ]
          try simp only [Act.put, List.setIfInBounds_toArray, List.set_cons_zero, List.set_cons_succ]
          refine wpAnyH_take (i := 10) (v := undef) rfl (by kernel_rfl) (by kernel_rfl) (by kernel_rfl) (fun _ _ _ h => h) (Or.inr ⟨by rfl, rfl⟩) (by assumption) ?_
          try simp only [Array.getInternal_eq_getElem, List.getElem_toArray, List.getElem_cons_zero, List.getElem_cons_succ]
          try simp only [Act.put, List.setIfInBounds_toArray, List.set_cons_zero, List.set_cons_succ]
          refine wpAnyH_take (i := 11) (v := undef) rfl (by kernel_rfl) (by kernel_rfl) (by kernel_rfl) (fun _ _ _ h => h) (Or.inr ⟨by rfl, rfl⟩) (by assumption) ?_
          try simp only [Array.getInternal_eq_getElem, List.getElem_toArray, List.getElem_cons_zero, List.getElem_cons_succ]
          try simp only [Act.put, List.setIfInBounds_toArray, List.set_cons_zero, List.set_cons_succ]
          refine wpAnyH_take (i := 12) (v := undef) rfl (by kernel_rfl) (by kernel_rfl) (by kernel_rfl) (fun _ _ _ h => h) (Or.inr ⟨by rfl, rfl⟩) (by assumption) ?_
          try simp only [Array.getInternal_eq_getElem, List.getElem_toArray, List.getElem_cons_zero, List.getElem_cons_succ]
          try simp only [Act.put, List.setIfInBounds_toArray, List.set_cons_zero, List.set_cons_succ]
          refine wpAnyH_take (i := 13) (v := undef) rfl (by kernel_rfl) (by kernel_rfl) (by kernel_rfl) (fun _ _ _ h => h) (Or.inr ⟨by rfl, rfl⟩) (by assumption) ?_
          try simp only [Array.getInternal_eq_getElem, List.getElem_toArray, List.getElem_cons_zero, List.getElem_cons_succ]
          try simp only [Act.put, List.setIfInBounds_toArray, List.set_cons_zero, List.set_cons_succ]
          refine wpAnyH_take (i := 14) (v := undef) rfl (by kernel_rfl) (by kernel_rfl) (by kernel_rfl) (fun _ _ _ h => h) (Or.inr ⟨by rfl, rfl⟩) (by assumption) ?_
          try simp only [Array.getInternal_eq_getElem, List.getElem_toArray, List.getElem_cons_zero, List.getElem_cons_succ]
          try simp only [Act.put, List.setIfInBounds_toArray, List.set_cons_zero, List.set_cons_succ]
          refine wpAnyH_take (i := 15) (v := undef) rfl (by kernel_rfl) (by kernel_rfl) (by kernel_rfl) (fun _ _ _ h => h) (Or.inr ⟨by rfl, rfl⟩) (by assumption) ?_
          try simp only [Array.getInternal_eq_getElem, List.getElem_toArray, List.getElem_cons_zero, List.getElem_cons_succ]
          try simp only [Act.put, List.setIfInBounds_toArray, List.set_cons_zero, List.set_cons_succ]
          refine wpAnyH_take (i := 16) (v := Value.bool false) rfl (by kernel_rfl) (by kernel_rfl) (by kernel_rfl) (fun _ _ _ h => h) (Or.inl ⟨by rfl, ?th37⟩) (by assumption) ?tr37
          case th37 => (intro w hSw; (try dsimp only at hSw); go_simp;  (try with_reducible rfl))
          try simp only [Array.getInternal_eq_getElem, List.getElem_toArray, List.getElem_cons_zero, List.getElem_cons_succ]
          try simp only [Act.put, List.setIfInBounds_toArray, List.set_cons_zero, List.set_cons_succ]
          refine wpAnyH_take (i := 17) (v := ?tv38) rfl (by kernel_rfl) (by kernel_rfl) (by kernel_rfl) (fun _ _ _ h => h) (Or.inl ⟨by rfl, ?th38⟩) (by assumption) ?tr38
          case th38 => (intro w hSw; (try dsimp only at hSw); go_simp;  (try with_reducible rfl))
          try simp only [Array.getInternal_eq_getElem, List.getElem_toArray, List.getElem_cons_zero, List.getElem_cons_succ]
          try simp only [Act.put, List.setIfInBounds_toArray, List.set_cons_zero, List.set_cons_succ]
          refine wpAnyH_done (by kernel_rfl) ?_ _
          go_wp2_with fail
          go_meet
          exact ⟨by rw [hy]; simp, S0⟩
      case rest =>
        obtain ⟨rfl, hb5⟩ := hcut
        have hx5 := (hb5.block X hXl).trans HX4.out
        have HL5 := Lib.hid (HL4.out.news hb5)
        have HROW := Lib.hid HL5.out.row
        clear p0 p1 HL4 HX4 hb5 HL2 HB2 hXl
        obtain ⟨⟨p0, p1⟩, _, _, hXl⟩ := two_cells hx5
        have key : (xn = 0 ∧ pk = ⟨1, 0, 0, bt s k⟩ ∧ sz = 1) ∨ (xn ≠ 0 ∧ xn < yn ∧ pk = ⟨1, 0, 0, bt s k⟩ ∧ sz = 1) ∨ (xn ≠ 0 ∧ ¬ xn < yn ∧ pk = ⟨2, (xd : Int), (xn : Int), 0⟩ ∧ sz = xn) := by
          rcases hcas with ⟨h | h, h3, h4⟩ | ⟨h, h5, h3, h4⟩
          · exact .inl ⟨h, h3, h4⟩
          · by_cases hx : xn = 0
            · exact .inl ⟨hx, h3, h4⟩
            · exact .inr (.inl ⟨hx, h, h3, h4⟩)
          · exact .inr (.inr ⟨h, h5, h3, h4⟩)
        clear hcas
        rcases key with ⟨h0, hpk, hsz⟩ | ⟨h0, hly, hpk, hsz⟩ | ⟨h0, hly, hpk, hsz⟩
        · as_aux_lemma =>
          subst h0
          subst hpk hsz
          rw [← hbk] at HE
          clear hbk
          go_wp2_with (at_builtin; refine wpList_append_one _ rfl _ _ 49 rfl 51 i0 (.agg #[.int .i64 0, .int .i64 0, .int .i64 0, .int .u8 0]) 4 32 Try.underlying49 HI.out HZ0.out HZ1.out HZ2.out rfl (by decide) u7 l.length _ rfl (HROW.out.alloc _) ⟨wc.heap.size, 0, none⟩ 1 [.int .i64 1, .int .i64 0, .int .i64 0, .int .u8 (s[k].toNat : Int)] rfl rfl (Pk.pr_new _ _ _ _ _) (Pk.pt_one 1 0 0 _) hm1 hm2 ?_; intro g9 cap9 w12 hown12 hgr12 hmv12; have HTT := Lib.hid (HL5.out.app (p := ⟨1, 0, 0, s[k].toNat⟩) rfl hown12 hgr12 hmv12); obtain ⟨⟨p0, p1⟩, _⟩ := two_cells (HL5.out.keep hx5 (by decide) hgr12); clear hown12 hgr12 hmv12)
          go_roundw
          case rel => exact ⟨k + 1, _, by omega, by go_num, HTT.out, HE.out, by simp; omega⟩
          case measure => simp [intOf]; omega
        · as_aux_lemma =>
          have hd0 : ((xn : Int) == 0) = false := by rw [beq_eq_false_iff_ne]; omega
          have hd1 : decide ((xn : Int) < (yn : Int)) = true := by rw [decide_eq_true_eq]; omega
          rw [hd1]
          clear hd1
          subst hpk hsz
          rw [← hbk] at HE
          clear hbk
          go_wp2_with (at_builtin; refine wpList_append_one _ rfl _ _ 49 rfl 51 i0 (.agg #[.int .i64 0, .int .i64 0, .int .i64 0, .int .u8 0]) 4 32 Try.underlying49 HI.out HZ0.out HZ1.out HZ2.out rfl (by decide) u7 l.length _ rfl (HROW.out.alloc _) ⟨wc.heap.size, 0, none⟩ 1 [.int .i64 1, .int .i64 0, .int .i64 0, .int .u8 (s[k].toNat : Int)] rfl rfl (Pk.pr_new _ _ _ _ _) (Pk.pt_one 1 0 0 _) hm1 hm2 ?_; intro g9 cap9 w12 hown12 hgr12 hmv12; have HTT := Lib.hid (HL5.out.app (p := ⟨1, 0, 0, s[k].toNat⟩) rfl hown12 hgr12 hmv12); obtain ⟨⟨p0, p1⟩, _⟩ := two_cells (HL5.out.keep hx5 (by decide) hgr12); clear hown12 hgr12 hmv12)
          go_roundw
          case rel => exact ⟨k + 1, _, by omega, by go_num, HTT.out, HE.out, by simp; omega⟩
          case measure => simp [intOf]; omega
        · as_aux_lemma =>
          subst hpk hsz
          have hd0 : ((sz : Int) == 0) = false := by rw [beq_eq_false_iff_ne]; omega
          have hd1 : decide ((sz : Int) < (yn : Int)) = false := by rw [decide_eq_false_iff_not]; omega
          rw [hd1]
          clear hd1
          have hwk : IntKind.i64.wrap ((k : Int) + (sz : Int)) = (k : Int) + (sz : Int) := by rw [IntKind.wrap_i64]; omega
          go_wp2_with (at_builtin; refine wpList_append_one _ rfl _ _ 49 rfl 51 i0 (.agg #[.int .i64 0, .int .i64 0, .int .i64 0, .int .u8 0]) 4 32 Try.underlying49 HI.out HZ0.out HZ1.out HZ2.out rfl (by decide) u7 l.length _ rfl (HROW.out.alloc _) ⟨wc.heap.size, 0, none⟩ 1 [.int .i64 2, .int .i64 (xd : Int), .int .i64 (sz : Int), .int .u8 ((0 : Nat) : Int)] rfl rfl (Pk.pr_new _ _ _ _ _) (Pk.pt_one 2 _ _ 0) hm1 hm2 ?_; intro g9 cap9 w12 hown12 hgr12 hmv12; have HTT := Lib.hid (HL5.out.app (p := ⟨2, (xd : Int), (sz : Int), 0⟩) rfl hown12 hgr12 hmv12); obtain ⟨⟨p0, p1⟩, _⟩ := two_cells (HL5.out.keep hx5 (by decide) hgr12); clear hown12 hgr12 hmv12)
          go_roundw
          case rel => exact ⟨k + sz, _, by omega, by go_num, HTT.out, HE.out, by simp; omega⟩
          case measure => simp [intOf]; omega
    · obtain rfl : k = s.size := by omega
      as_aux_lemma =>
      rw [parse_end (Nat.le_refl _), List.append_nil] at hE
      subst hE
      obtain ⟨A, cap, rfl, hpts⟩ := hL.row.slice (parse_bytes s c 0)
      obtain ⟨hf1, hf2, hf3⟩ := HTF.out
      have HAG := Lib.hid (ragain_any (cap := cap) hL.below hpts (by have := parse_length s c 0; omega) (by rw [← hf1]; exact hf3))
      have hll2 : (told s c).length ≤ 160 := by rw [hf2]; have := parse_length s c 0; omega
      rw [← hf1] at HAG
      clear hL HLO HC HW HTF HBE HPV hpts hf1 hf2 hf3 HI HZ0 HZ1 HZ2
      generalize told s c = qs at *
      go_wp2_with fail
      refine HAG.out.mono ?_
      rintro x w3 ⟨ad, cd, rfl, hb3, hI3⟩
      have HB3 := Lib.hid hb3
      have HD3 := Lib.hid hI3
      clear hb3 hI3 HAG
      go_wp2_with fail
      refine (HG.out w3).mono ?_
      rintro x w4 ⟨Z, rfl, hb4, hI4⟩
      have HB4 := Lib.hid (HB3.out.trans (hb4.mono HB3.out.size))
      have HD4 := Lib.hid (HD3.out.below hb4)
      have HI4 := Lib.hid hI4
      clear hb4 hI4 HG HB3 HD3
      go_wp2_with fail
      go_loopw [12] (fun i wr => ∃ k n : Nat, k ≤ qs.length ∧ i = .int .i64 k ∧ wr = w4.drewN n) (fun i _ => qs.length - (intOf i).toNat)
      case atStart => exact ⟨0, 0, by omega, rfl, rfl⟩
      case round =>
        obtain ⟨k, n, hk, rfl, rfl⟩ := hrel
        by_cases hlt : k < qs.length
        · rcases HI4.out with h0 | ⟨bz, oz, hz, hc⟩
          · rw [h0] at hlt; simp at hlt
          · rcases HD4.out with h0 | ⟨bd, od, rfl, hd⟩
            · rw [h0] at hlt; simp at hlt
            · simp only [Option.some.injEq, Addr.mk.injEq, and_true] at hz
              obtain ⟨rfl, rfl⟩ := hz
              obtain ⟨p0, p1, p2, p3, _⟩ := hc k hlt
              obtain ⟨q0, q1, q2, q3, _⟩ := hd k hlt
              rw [Nat.zero_add] at p0 p1 p2 p3
              have hq := eq_pt qs[k]
              clear hc hd
              generalize qs[k] = p at *
              go_wp2
              go_quiet (fail)
              clear hq
              go_wp2
              go_roundw
              case rel => exact ⟨k + 1, _, by omega, by go_num, rfl⟩
              case measure => simp [intOf]; omega
        · obtain ⟨k', hk'⟩ : ∃ k' : Nat, k' = k := ⟨k, rfl⟩
          obtain rfl : k = qs.length := by omega
          clear hk'
          have HB5 := Lib.hid (HB4.out.trans ((below_drewN (Below.refl w4.heap.size w4) n).mono HB4.out.size))
          clear HB4
          go_wp2_with fail
          go_ret
          exact ⟨rfl, HB5.out⟩
end Go.Proofs.Ythdjnbhdgacmgaa.Gr
