/-
  Contracts of the developers' trees of layer 4, more: New.
-/
import Derived.Test.YtjfoolhgjnnhgaaProbsDev
namespace Go.Proofs.Ytjfoolhgjnnhgaa.Rc
open Go.RowKit
theorem info16 : (Try.prog.info? 41).map (fun i => (i.zero, i.size, i.bytes)) = some (some (.int .u16 0), 1, 2) := by kernel_rfl
/-- A new tree, k of its places set. -/
def Newing (w : World) (O : Paint) (c N k : Nat) (wr : World) : Prop := ∃ l : List Nat, l.length = N ∧ (∀ j, j < k → l[j]? = some 1024) ∧ TreeAt wr (Step.paint O w c) c (.slice (some ⟨w.heap.size, 0, none⟩) N N) l ∧ Step [] w O wr (Step.paint O w c)
theorem newing_set {w : World} {O : Paint} {c N k : Nat} {wr : World} (h : Newing w O c N k wr) (hk : k < N) : Newing w O c N (k + 1) (wr.setCell ⟨w.heap.size, k, none⟩ (.int .u16 1024)) := by
  obtain ⟨l, h1, h2, h3, h4⟩ := h
  refine ⟨l.set k 1024, by simpa using h1, fun j hj => ?_, h3.set k 1024, h4.setCell (p := ⟨w.heap.size, k, none⟩) (.inr (Nat.le_refl _)) _⟩
  by_cases e : j = k
  · subst e; rw [List.getElem?_set_self (by omega)]
  · rw [List.getElem?_set_ne (fun h => e h.symm)]; exact h2 j (by omega)
theorem newing_all {w : World} {O : Paint} {c N : Nat} {wr : World} (h : Newing w O c N N wr) : TreeAt wr (Step.paint O w c) c (.slice (some ⟨w.heap.size, 0, none⟩) N N) (List.replicate N 1024) ∧ Step [] w O wr (Step.paint O w c) := by
  obtain ⟨l, h1, h2, h3, h4⟩ := h
  have e : l = List.replicate N 1024 := by
    apply List.ext_getElem?
    intro j
    by_cases hj : j < N
    · rw [h2 j hj, List.getElem?_replicate, if_pos hj]
    · rw [List.getElem?_eq_none (by omega), List.getElem?_eq_none (by simp; omega)]
  rw [← e]
  exact ⟨h3, h4⟩
set_option maxRecDepth 100000 in
set_option maxHeartbeats 1000000 in
theorem new_at (x : Int) (n : Nat) (hn : n ≤ 16) (hx : (x = n) ∨ (x < 0 ∧ n = 0) ∨ (16 < x ∧ n = 16)) (w : World) (O : Paint) (c : Nat) :
    Calls Try.prog 12 #[.int .i64 x] w fun y w' => y = .returned (.slice (some ⟨w.heap.size, 0, none⟩) (2 ^ n) (2 ^ n)) ∧ ∃ O', Step [] w O w' O' ∧ TreeAt w' O' c (.slice (some ⟨w.heap.size, 0, none⟩) (2 ^ n) (2 ^ n)) (List.replicate (2 ^ n) 1024) := by
  obtain ⟨i0, hi, hz0, hz1, hz2⟩ := info_parts info16
  have hp : 2 ^ n ≤ 65536 := Nat.pow_le_pow_right (n := 2) (by omega) hn
  have hmk0 := run_makeSlice_full (P := Try.prog) w 0 25 41 i0 (.int .u16 0) 1 Try.underlying25 hi hz0 hz1 .i64 .i64 (2 ^ n) (by omega) (by rw [hz2]; omega) (by unfold maxLen; omega) (Nat.zero_le _)
  obtain ⟨w1, hmk, hrow, hgr⟩ := hmk0
  have hmc : (madeCells (Value.int .u16 0).cells (2 ^ n * 1)).toList = u16s (List.replicate (2 ^ n) 0) := by
    rw [Nat.mul_one]
    show (madeCells #[.int .u16 0] (2 ^ n)).toList = _
    rw [toList_madeCells_one]
    simp [u16s]
  have H0 : Newing w O c (2 ^ n) 0 w1 := by
    refine ⟨List.replicate (2 ^ n) 0, by simp, fun j hj => by omega, ⟨?_, fun k hk => Step.paint_new (by simp [Value.ownBlock] at hk; omega)⟩, ?_⟩
    · rw [u16s_length, List.length_replicate, ← hmc]; exact hrow
    · exact ((Step.refl [] w O).grown hgr (fun k hk => by cases hk)).repaint c
  have HH := Lib.hid H0
  have hpow : (2 : Int) ^ n = ((2 ^ n : Nat) : Int) := by simp
  have hw2 : IntKind.i64.wrap ((2 : Int) ^ n) = ((2 ^ n : Nat) : Int) := by rw [hpow]; generalize 2 ^ n = N at *; exact IntWalk.i64_in _ (by omega)
  have hw1 : wrap64 ((2 : Int) ^ n) = ((2 ^ n : Nat) : Int) := by rw [← IntWalk.i64_left]; exact hw2
  generalize hNN : 2 ^ n = N at *
  have HNN := Lib.hid hNN
  clear H0 hrow hgr hmc hpow hNN
  rcases hx with rfl | ⟨h1, rfl⟩ | ⟨h1, rfl⟩
  · as_aux_lemma =>
    go_enter Try.func12, Try.ntmps12
    go_wp2_with fail
    go_loopw [4, 12] (fun _ i wr => ∃ k : Nat, k ≤ N ∧ i = .int .i64 k ∧ Newing w O c N k wr) (fun _ i _ => N - (intOf i).toNat)
    case atStart => exact ⟨0, by omega, rfl, HH.out⟩
    case round =>
      clear HH hmk
      obtain ⟨k, hk, rfl, hne⟩ := hrel
      have hlt0 : w.heap.size < wr.heap.size := by
        obtain ⟨l, hl, _, h3, _⟩ := hne
        exact Held.lt h3 rfl
      by_cases hlt : k < N
      · have HS := Lib.hid (newing_set hne hlt)
        obtain ⟨l, hl, _, h3, _⟩ := hne
        have c1 := h3.cellAt (j := k) (by omega)
        have f1 := Held.free h3 k
        clear h3 hl
        go_wp2_with fail
        go_roundw
        case rel => exact ⟨k + 1, by omega, by go_num, HS.out⟩
        case measure => simp [intOf]; omega
      · obtain rfl : k = N := by omega
        have HA := Lib.hid (newing_all hne)
        clear hne
        go_wp2_with fail
        go_ret
        exact ⟨rfl, _, HA.out.2, HA.out.1⟩
  · as_aux_lemma =>
    obtain rfl : N = 1 := HNN.out.symm
    have hmk2 : (Instr.makeSlice 25 (.int .i64 1) (.int .i64 1)).run Try.prog w = .ok (.slice (some ⟨w.heap.size, 0, none⟩) 1 1) w1 := hmk
    clear hmk hw1 hw2
    have hmk := hmk2
    clear hmk2
    go_enter Try.func12, Try.ntmps12
    go_wp2_with fail
    go_loopw [4, 12] (fun _ i wr => ∃ k : Nat, k ≤ 1 ∧ i = .int .i64 k ∧ Newing w O c 1 k wr) (fun _ i _ => 1 - (intOf i).toNat)
    case atStart => exact ⟨0, by omega, rfl, HH.out⟩
    case round =>
      clear HH hmk
      obtain ⟨k, hk, rfl, hne⟩ := hrel
      have hlt0 : w.heap.size < wr.heap.size := by
        obtain ⟨l, hl, _, h3, _⟩ := hne
        exact Held.lt h3 rfl
      by_cases hlt : k < 1
      · have HS := Lib.hid (newing_set hne hlt)
        obtain ⟨l, hl, _, h3, _⟩ := hne
        have c1 := h3.cellAt (j := k) (by omega)
        have f1 := Held.free h3 k
        clear h3 hl
        go_wp2_with fail
        go_roundw
        case rel => exact ⟨k + 1, by omega, by go_num, HS.out⟩
        case measure => simp [intOf]; omega
      · obtain rfl : k = 1 := by omega
        have HA := Lib.hid (newing_all hne)
        clear hne
        go_wp2_with fail
        go_ret
        exact ⟨rfl, _, HA.out.2, HA.out.1⟩
  · as_aux_lemma =>
    have hNI : ((N : Nat) : Int) = 65536 := by rw [← HNN.out]; rfl
    have hmk2 : (Instr.makeSlice 25 (.int .i64 65536) (.int .i64 65536)).run Try.prog w = .ok (.slice (some ⟨w.heap.size, 0, none⟩) N N) w1 := by
      have h9 := hmk
      rw [hNI] at h9
      exact h9
    clear hmk hw1 hw2 hNI
    have hmk := hmk2
    clear hmk2
    go_enter Try.func12, Try.ntmps12
    go_wp2_with fail
    go_loopw [4, 12] (fun _ i wr => ∃ k : Nat, k ≤ N ∧ i = .int .i64 k ∧ Newing w O c N k wr) (fun _ i _ => N - (intOf i).toNat)
    case atStart => exact ⟨0, by omega, rfl, HH.out⟩
    case round =>
      clear HH hmk
      obtain ⟨k, hk, rfl, hne⟩ := hrel
      have hlt0 : w.heap.size < wr.heap.size := by
        obtain ⟨l, hl, _, h3, _⟩ := hne
        exact Held.lt h3 rfl
      by_cases hlt : k < N
      · have HS := Lib.hid (newing_set hne hlt)
        obtain ⟨l, hl, _, h3, _⟩ := hne
        have c1 := h3.cellAt (j := k) (by omega)
        have f1 := Held.free h3 k
        clear h3 hl
        go_wp2_with fail
        go_roundw
        case rel => exact ⟨k + 1, by omega, by go_num, HS.out⟩
        case measure => simp [intOf]; omega
      · obtain rfl : k = N := by omega
        have HA := Lib.hid (newing_all hne)
        clear hne
        go_wp2_with fail
        go_ret
        exact ⟨rfl, _, HA.out.2, HA.out.1⟩
end Go.Proofs.Ytjfoolhgjnnhgaa.Rc
