/-
  Package bst: contracts of left, Place, of none, New, matching.
-/
import Derived.Test.YteacmcckhjabmaaBstDev
namespace Go.Proofs.Yteacmcckhjabmaa.Bs
open Go.RowKit Go.Maps
open Mt
open Ch (bt bt_at bt_lt Dm ret_num infoI)
set_option maxHeartbeats 400000 in
theorem left_raw {w : World} {a : Nat} {s : ByteArray} {p : Nat} (h0 : w.cell? ⟨a, 0, none⟩ = some (.string s)) (h2 : w.cell? ⟨a, 2, none⟩ = some (.int .i64 (p : Int))) (hp : p ≤ s.size) (hs : s.size ≤ 1000000000000) :
    Calls Try.prog 85 #[.pointer (some ⟨a, 0, none⟩)] w fun x w' => x = .returned (.int .i64 ((s.size : Int) - p)) ∧ ∃ n, w' = w.drewN n := by
  go_enter Try.func85, Try.ntmps85
  go_wp2
  go_quiet (fail)
  go_wp2
  go_ret
  exact ⟨rfl, _, rfl⟩
theorem nil_next (w : World) : Calls Try.prog 50 #[.pointer none] w fun x w' => x = .returned (.slice none 0 0) ∧ w = w' := by
  go_enter Try.func50, Try.ntmps50
  go_wp2
  go_ret
  exact ⟨rfl, rfl⟩
set_option maxHeartbeats 2000000 in
theorem matching_raw {w : World} {a : Nat} {s : ByteArray} {p q m0 most : Nat} (h0 : w.cell? ⟨a, 0, none⟩ = some (.string s)) (h2 : w.cell? ⟨a, 2, none⟩ = some (.int .i64 (p : Int))) (hq : q < p) (hm : p + most ≤ s.size) (hs : s.size ≤ 1000000000000) (h01 : m0 ≤ most) :
    Calls Try.prog 114 #[.pointer (some ⟨a, 0, none⟩), .int .i64 (q : Int), .int .i64 (m0 : Int), .int .i64 (most : Int)] w fun x w' => x = .returned (.int .i64 (mat (bt s) p q m0 (most - m0) : Int)) ∧ ∃ n, w' = w.drewN n := by
  go_enter Try.func114, Try.ntmps114
  go_wp2
  go_loopw [2] (fun i wr => ∃ k n : Nat, k ≤ most ∧ mat (bt s) p q k (most - k) = mat (bt s) p q m0 (most - m0) ∧ i = .int .i64 k ∧ wr = w.drewN n) (fun i _ => most - (intOf i).toNat)
  case atStart => exact ⟨m0, 0, h01, rfl, rfl, rfl⟩
  case round =>
    obtain ⟨k, n, hk, hmat, rfl, rfl⟩ := hrel
    have HM := Lib.hid hmat
    clear hmat
    have g0 : (w.drewN n).cell? ⟨a, 0, none⟩ = some (.string s) := h0
    have g2 : (w.drewN n).cell? ⟨a, 2, none⟩ = some (.int .i64 (p : Int)) := h2
    by_cases hlt : k < most
    · have hpk : p + k < s.size := by omega
      have hqk : q + k < s.size := by omega
      have e1 : (0 : Int) ≤ (p : Int) + (k : Int) := by omega
      have e2 : (p : Int) + (k : Int) < (s.size : Int) := by omega
      have e3 : ((p : Int) + (k : Int)).toNat = p + k := by omega
      have e4 : IntKind.i64.wrap ((p : Int) + (k : Int)) = (p : Int) + (k : Int) := IntWalk.i64_in _ (by omega)
      have d1 : (0 : Int) ≤ (q : Int) + (k : Int) := by omega
      have d2 : (q : Int) + (k : Int) < (s.size : Int) := by omega
      have d3 : ((q : Int) + (k : Int)).toNat = q + k := by omega
      have d4 : IntKind.i64.wrap ((q : Int) + (k : Int)) = (q : Int) + (k : Int) := IntWalk.i64_in _ (by omega)
      have hlt' : decide (k < most) = true := by simpa using hlt
      by_cases he : bt s (p + k) = bt s (q + k)
      · have HE : Hid (mat (bt s) p q (k + 1) (most - (k + 1)) = mat (bt s) p q m0 (most - m0)) := Lib.hid (by
          rw [← HM.out, show most - k = (most - (k + 1)) + 1 from by omega, mat, if_pos he])
        have hbe : ((s[q + k].toNat : Int) == (s[p + k].toNat : Int)) = true := by rw [bt_at, bt_at, he]; simp
        clear he HM
        go_wp2
        go_quiet (fail)
        clear e4 d4
        go_wp2
        go_roundw
        case rel => exact ⟨k + 1, _, by omega, HE.out, by go_num, rfl⟩
        case measure => simp [intOf]; omega
      · have HE : Hid (mat (bt s) p q m0 (most - m0) = k) := Lib.hid (by
          rw [← HM.out, show most - k = (most - (k + 1)) + 1 from by omega, mat, if_neg he])
        have hbe : ((s[q + k].toNat : Int) == (s[p + k].toNat : Int)) = false := by rw [bt_at, bt_at, beq_eq_false_iff_ne]; omega
        clear he HM
        go_wp2
        go_quiet (fail)
        clear e4 d4
        go_wp2
        go_ret
        exact ⟨ret_num (by rw [HE.out]), _, by rw [World.drewN_drewN]⟩
    · have HE : Hid (mat (bt s) p q m0 (most - m0) = k) := Lib.hid (by
        rw [← HM.out, show most - k = 0 from by omega, mat])
      have hlt' : decide (k < most) = false := by simpa using hlt
      clear HM
      go_wp2
      go_quiet (fail)
      go_wp2
      go_ret
      exact ⟨ret_num (by rw [HE.out]), _, by rw [World.drewN_drewN]⟩
theorem infoN : (Try.prog.info? 181).map (fun i => (i.zero, i.size, i.bytes)) = some (some (.agg #[.int .i64 0, .int .i64 0]), 2, 16) := by kernel_rfl
theorem made_nodes (n : Nat) : (madeCells (Value.agg #[.int .i64 0, .int .i64 0]).cells (n * 2)).toList = (List.replicate (n * 2) (0 : Int)).map (Value.int .i64) := by
  apply List.ext_getElem
  · simp [madeCells]
  · intro i h1 h2
    have : i % 2 = 0 ∨ i % 2 = 1 := by omega
    simp [madeCells, Value.cells]
    rcases this with e | e <;> simp [e]
set_option maxHeartbeats 1000000 in
theorem new_any (s : ByteArray) (window : Int) (w : World) (O : Paint) (c : Nat) (hs : s.size ≤ 1000000000) :
    Calls Try.prog 47 #[.string s, .int .i64 window] w fun x w' => ∃ a O' B v xs D, x = .returned (.pointer (some ⟨a, 0, none⟩)) ∧ Step [] w O w' O' ∧ BinAt w' O' c a s window 0 0 B v xs D := by
  obtain ⟨i0, hi, hz0, hz1, hz2⟩ := info_parts infoN
  have hmm := run_makeMap (P := Try.prog) 141 w
  obtain ⟨w2, hmk, hrow, hgr⟩ := run_make_full (P := Try.prog) (w.alloc (.map #[] 0)) 0 142 181 i0 (.agg #[.int .i64 0, .int .i64 0]) 2 Try.underlying142 hi hz0 hz1 .i64 .i64 s.size (by rw [hz2]; omega) (by unfold maxLen; omega) (Nat.zero_le _)
  rw [made_nodes] at hrow
  have hown := (World.ownsMap_made w Try.prog 194 (plainElem (H := Unit) Try.prog 3)).kept hgr (by simp)
  have HR := Lib.hid hrow
  have HO := Lib.hid hown
  have HG := Lib.hid hgr
  have hsz : (w.alloc (.map #[] 0)).heap.size = w.heap.size + 1 := World.size_alloc _ _
  rw [hsz] at hmk HR
  have hz2 := HG.out.size
  rw [hsz] at hz2
  clear hrow hown hgr hsz
  go_enter Try.func47, Try.ntmps47
  go_wp2_with fail
  go_ret
  refine ⟨w2.heap.size, Step.paint O w c, w.heap.size, .slice (some ⟨w.heap.size + 1, 0, none⟩) s.size s.size, List.replicate (s.size * 2) 0, .map [], rfl, ?_, ?_⟩
  · exact ((((Step.refl [] w O).alloc _).grown HG.out (fun k hk => by cases hk)).alloc _).repaint c
  · have hp : ∀ k, w.heap.size ≤ k → Step.paint O w c k = c := fun k hk => Step.paint_new hk
    exact ⟨⟨heap_alloc_new _ _, hp _ (by omega)⟩, ⟨World.ownsRow.alloc HR.out _, fun k hk => hp k (by simp [Value.ownBlock] at hk; omega), by simp⟩, HO.out.alloc _, hp _ (Nat.le_refl _), fun _ => tells2_none s, Nat.zero_le _, by omega⟩
end Go.Proofs.Yteacmcckhjabmaa.Bs
