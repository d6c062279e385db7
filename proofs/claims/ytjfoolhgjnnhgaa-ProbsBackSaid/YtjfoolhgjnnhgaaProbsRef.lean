/-
  Contracts of the reference of layer 4: New, bit, Put.
-/
import Derived.Test.YtjfoolhgjnnhgaaProbsMath
import Derived.Test.YtjfoolhgjnnhgaaRcLock
import Derived.BigRegion
import Derived.Deep.RegionWith
import Derived.StillTailTactics
namespace Go.Proofs.Ytjfoolhgjnnhgaa.Rc
open Go.RowKit
def num (n : Nat) : Value := .int .u64 (n : Int)
theorem info64 : (Try.prog.info? 33).map (fun i => (i.zero, i.size, i.bytes)) = some (some (.int .u64 0), 1, 8) := by kernel_rfl
/-- A slice that owns just these numbers. -/
def Row64 (w : World) (v : Value) (l : List Nat) : Prop := w.ownsRow 0 33 1 v l.length (l.map num)
theorem bit_any (v i : Nat) (hv : v ≤ 4294967296) (hi : i ≤ 64) (w : World) :
    Calls Try.prog 60 #[.int .i64 (v : Int), .int .i64 (i : Int)] w fun x w' => x = .returned (.int .i64 (bitAt v i : Int)) ∧ w = w' := by
  go_enter Try.func60, Try.ntmps60
  go_wp2
  go_loop [0, 1] (fun x k => ∃ j : Nat, j ≤ i ∧ x = .int .i64 ((v / 2 ^ (i - j) : Nat) : Int) ∧ k = .int .i64 j) (fun _ k => (intOf k).toNat)
  case atStart => exact ⟨i, Nat.le_refl _, by rw [Nat.sub_self, Nat.pow_zero, Nat.div_one], rfl⟩
  case round =>
    obtain ⟨j, hj, rfl, rfl⟩ := hrel
    have hle : v / 2 ^ (i - j) ≤ v := Nat.div_le_self _ _
    cases j with
    | zero =>
      rw [Nat.sub_zero] at hle ⊢
      have HB := Lib.hid (show bitAt v i = v / 2 ^ i % 2 from rfl)
      generalize v / 2 ^ i = q at *
      go_wp2
      go_ret
      exact ⟨ret_int (by rw [HB.out]; omega), rfl⟩
    | succ j =>
      have HS := Lib.hid (show v / 2 ^ (i - j) = v / 2 ^ (i - (j + 1)) / 2 by rw [Nat.div_div_eq_div_mul, ← Nat.pow_succ, show (i - (j + 1)).succ = i - j from by omega])
      generalize v / 2 ^ (i - (j + 1)) = q at *
      have hji : ((j + 1 : Nat) : Int) = (j : Int) + 1 := by omega
      rw [hji]
      go_wp2
      go_round
      case rel => exact ⟨j, by omega, by rw [HS.out]; go_num, by go_num⟩
      case measure => simp [intOf]
def Fresh64 (w : World) (l : List Nat) (e : Ending) (w' : World) : Prop := ∃ v, e = .returned v ∧ Row64 w' v l ∧ Below w.heap.size w w' ∧ (∀ j, v.ownBlock = some j → w.heap.size ≤ j)
theorem one64 (n : Nat) : ∀ u ∈ [Value.int .u64 (n : Int)], u.oneCell' = true := by intro u hu; simp at hu; subst hu; rfl
theorem grow64 {w : World} {v : Value} {k : Nat} (h : w.ownsRow 0 33 1 v (k + 1) ((List.replicate k 1024).map num ++ [.int .u64 1024])) : Row64 w v (List.replicate (k + 1) 1024) := by
  unfold Row64
  rw [List.length_replicate, List.replicate_succ', List.map_append]
  exact h
theorem newer {w wr : World} {o : Obj} {v v' : Value} (hn : ∀ j, v.ownBlock = some j → w.heap.size ≤ j) (hb : Below w.heap.size w wr) (hm : Moved (wr.alloc o) v v') : ∀ j, v'.ownBlock = some j → w.heap.size ≤ j := by
  intro j hj
  rcases hm with e | e
  · exact hn j (by rw [← e]; exact hj)
  · have h1 := e j hj
    have h2 := hb.size
    rw [World.size_alloc] at h1; omega
theorem _root_.Go.RowKit.Below.grown2 {w wr w2 : World} {o : Obj} {v : Value} (hb : Below w.heap.size w wr) (hg : (wr.alloc o).grownBy w2 v.ownBlock) (hn : ∀ j, v.ownBlock = some j → w.heap.size ≤ j) : Below w.heap.size w w2 :=
  (hb.alloc hb.size o).grown hg (by rw [World.size_alloc]; have := hb.size; omega) hn
set_option maxHeartbeats 400000 in
theorem tree_new (n : Nat) (hn : n ≤ 1000000) (w : World) : Calls Try.prog 13 #[.int .i64 (n : Int)] w (Fresh64 w (List.replicate n 1024)) := by
  obtain ⟨i0, hi, hz0, hz1, hz2⟩ := info_parts info64
  go_enter Try.func13, Try.ntmps13
  go_wp2
  go_loopw [3, 4] (fun u i wr => ∃ (k : Nat) (v : Value), v = u ∧ k ≤ n ∧ i = .int .i64 k ∧ Row64 wr v (List.replicate k 1024) ∧ (∀ j, v.ownBlock = some j → w.heap.size ≤ j) ∧ Below w.heap.size w wr) (fun _ i _ => n - (intOf i).toNat)
  case atStart => exact ⟨0, _, rfl, by omega, rfl, World.ownsRow_nil _ _ _ _, by simp [Value.ownBlock], Below.refl _ _⟩
  case round =>
    obtain ⟨k, v, hv, hk, rfl, hrow, hnew, hbel⟩ := hrel
    subst hv
    by_cases hlt : k < n
    · have hrow' : wr.ownsRow 0 33 1 v k ((List.replicate k 1024).map num) := by have h9 := hrow; unfold Row64 at h9; rw [List.length_replicate] at h9; exact h9
      have HO := Lib.hid hrow'
      have HN := Lib.hid hnew
      have HB := Lib.hid hbel
      have hb1 : k + 1 ≤ maxLen := by unfold maxLen; omega
      have hb2 : (k + 1) * 8 ≤ 140737488355328 := by omega
      clear hrow hrow' hnew hbel
      go_wp2_with (at_builtin; refine wpList_append_one _ rfl _ _ 28 rfl 33 i0 (.int .u64 0) 1 8 Try.underlying28 hi hz0 hz1 hz2 rfl (by decide) v _ _ rfl (HO.out.alloc _) ⟨wr.heap.size, 0, none⟩ 1 [.int .u64 1024] rfl rfl (cell_one_new _ _ _) (one64 1024) hb1 hb2 ?_; intro g cap w2 hown2 hgr2 hmv2; have HO2 := Lib.hid hown2; have HG2 := Lib.hid hgr2; have HM2 := Lib.hid hmv2; clear hown2 hgr2 hmv2)
      go_roundw
      case rel => exact ⟨k + 1, _, rfl, by omega, by go_num, grow64 HO2.out, newer HN.out HB.out HM2.out, HB.out.grown2 HG2.out HN.out⟩
      case measure => simp [intOf]; omega
    · obtain rfl : k = n := by omega
      have HR := Lib.hid hrow
      have HB := Lib.hid hbel
      have HNW := Lib.hid hnew
      clear hrow hbel hnew
      go_wp2
      go_ret
      exact ⟨v, rfl, HR.out, HB.out, HNW.out⟩
theorem Row64.form {w : World} {v : Value} {l : List Nat} (h : Row64 w v l) (hn : 0 < l.length) : ∃ g cap, v = .slice (some ⟨g, 0, none⟩) l.length cap := own_form h hn
theorem ones64 (l : List Nat) : ∀ u ∈ l.map num, u.oneCell' = true := by
  intro u hu
  obtain ⟨x, _, rfl⟩ := List.mem_map.1 hu
  rfl
/-- What Put's memory holds behind i bits. -/
def Putting (w : World) (g0 : Nat) (s : Tr) (g2 N cap2 : Nat) (wr : World) : Prop := ∃ g cap,
  wr.heap[w.heap.size]? = some (.cells #[.slice (some ⟨g, 0, none⟩) (s.e.turns + 4) cap, .int .u64 (s.e.size : Int)] 35 (0, 0)) ∧
  wr.heap[w.heap.size + 1]? = some (.cells #[.slice none 0 0, .int .u64 0] 35 (0, 0)) ∧
  Row wr (.slice (some ⟨g, 0, none⟩) (s.e.turns + 4) cap) (be (s.e.turns + 4) s.e.low) ∧ Row64 wr (.slice (some ⟨g2, 0, none⟩) N cap2) s.l ∧ Below w.heap.size w wr ∧ (g = g0 ∨ w.heap.size ≤ g)
theorem empty_at {W : World} {b : Nat} {t : TypeId} (h : W.heap.size = b) : (W.alloc (.cells #[] t)).ownsRow 0 t 1 (.slice (some ⟨b, 0, none⟩) 0 0) 0 [] := by
  subst h
  exact ⟨rfl, .inr ⟨W.heap.size, 0, #[], rfl, Nat.zero_le _, heap_alloc_new W _, Nat.le_refl _, by unfold maxLen; omega, rfl, rfl⟩⟩
theorem fresh_at {W w2 : World} {b g k cap : Nat} {xs : List Value} {t : TypeId} {o : Obj} (ho : w2.ownsRow 0 t 1 (.slice (some ⟨g, 0, none⟩) (0 + k) cap) (0 + k) ([] ++ xs))
    (hg : (W.alloc o).grownBy w2 (Value.slice (some ⟨b, 0, none⟩) 0 0).ownBlock) (hm : Moved (W.alloc o) (.slice (some ⟨b, 0, none⟩) 0 0) (.slice (some ⟨g, 0, none⟩) (0 + k) cap)) (hb : W.heap.size = b := by simp) :
    w2.ownsRow 0 t 1 (.slice (some ⟨g, 0, none⟩) k cap) k xs ∧ Below W.heap.size W w2 ∧ W.heap.size ≤ g := by
  subst hb
  refine ⟨by simpa using ho, ?_, ?_⟩
  · exact ((Below.refl _ _).alloc (Nat.le_refl _) _).grown hg (by simp) (fun j hj => by simp [Value.ownBlock] at hj; omega)
  · rcases hm with e | e
    · simp [Value.ownBlock] at e; omega
    · have := e g rfl
      rw [World.size_alloc] at this; omega
theorem row64_ne {w : World} {g n cap X : Nat} {l : List Nat} {cs : Array Value} {t : TypeId} (h : Row64 w (.slice (some ⟨g, 0, none⟩) n cap) l) (hc : w.heap[X]? = some (.cells cs t (0, 0))) (ht : t ≠ 33) : g ≠ X := by
  rcases h.2 with ⟨e, _⟩ | ⟨g', cap', cur, e, _, hg, _⟩
  · simp at e
  · simp only [Value.slice.injEq, Option.some.injEq, Addr.mk.injEq, and_true] at e
    rintro rfl
    rw [e.1, hg] at hc
    simp only [Option.some.injEq, Obj.cells.injEq] at hc
    exact ht hc.2.1.symm
theorem putting_step {w wr w3 : World} {g0 : Nat} {S : Tr} {q b p g3 cap3 g2 N cap2 g4 cap4 : Nat} (hp : S.l.getD q 0 = p) (hlen : S.l.length = N)
    (hc0 : wr.heap[w.heap.size]? = some (.cells #[.slice (some ⟨g3, 0, none⟩) (S.e.turns + 4) cap3, .int .u64 (S.e.size : Int)] 35 (0, 0)))
    (hc1 : wr.heap[w.heap.size + 1]? = some (.cells #[.slice none 0 0, .int .u64 0] 35 (0, 0)))
    (hr64 : Row64 wr (.slice (some ⟨g2, 0, none⟩) N cap2) S.l) (hbel : Below w.heap.size w wr)
    (hr : Row w3 (.slice (some ⟨g4, 0, none⟩) ((S.e.bit p b).turns + 4) cap4) (be ((S.e.bit p b).turns + 4) (S.e.bit p b).low)) (hb3 : Below wr.drew.heap.size wr.drew w3) (hgg : w.heap.size ≤ g2) (hor : g3 = g0 ∨ w.heap.size ≤ g3) (hmv : Moved wr.drew (.slice (some ⟨g3, 0, none⟩) (S.e.turns + 4) cap3) (.slice (some ⟨g4, 0, none⟩) ((S.e.bit p b).turns + 4) cap4)) :
    Putting w g0 (S.at q b) g2 N cap2 (((w3.setCell ⟨w.heap.size, 0, none⟩ (.slice (some ⟨g4, 0, none⟩) ((S.e.bit p b).turns + 4) cap4)).setCell ⟨w.heap.size, 1, none⟩ (.int .u64 ((S.e.bit p b).size : Int))).setCell ⟨g2, q, none⟩ (.int .u64 ((learn p b : Nat) : Int))) := by
  have hst : S.at q b = ⟨S.e.bit p b, S.l.set q (learn p b), 2 * S.m + b⟩ := by unfold Tr.at; rw [hp]
  rw [hst]
  have lt1 := lt_of_heap hc1
  have lt2 : g2 < wr.heap.size := ownsRow_lt hr64 g2 rfl
  have n0 := row64_ne hr64 hc0 (by decide)
  have n1 := row64_ne hr64 hc1 (by decide)
  have k0 := (hb3.block w.heap.size (by show w.heap.size < wr.heap.size; omega)).trans hc0
  have k1 := (hb3.block (w.heap.size + 1) lt1).trans hc1
  have m0 := row_ne hr k0 (by decide)
  have m1 := row_ne hr k1 (by decide)
  have r64 : w3.ownsRow 0 33 1 (.slice (some ⟨g2, 0, none⟩) N cap2) N (S.l.map num) := by
    have h9 := ownsRow_frame hr64 (Frame.of_below (w := wr) (w' := w3) ⟨hb3.os, hb3.tape, hb3.output, hb3.size, hb3.block⟩) (fun j hj => by simp [Value.ownBlock] at hj; show ¬ wr.heap.size ≤ j; omega)
    rw [hlen] at h9; exact h9
  have hbw : Below w.heap.size w w3 := hbel.trans ⟨hb3.os, hb3.tape, hb3.output, hb3.size, fun j hj => hb3.block j (by have := hbel.size; show j < wr.heap.size; omega)⟩
  have m2 : g4 ≠ g2 := by
    rcases r64.2 with ⟨e, _⟩ | ⟨g', cap', cur, e, _, hg, _⟩
    · simp at e
    · simp only [Value.slice.injEq, Option.some.injEq, Addr.mk.injEq, and_true] at e
      rw [← e.1] at hg
      exact row_ne hr hg (by decide)
  have f1 : Frame (fun j => j = w.heap.size) w3 ((w3.setCell ⟨w.heap.size, 0, none⟩ (.slice (some ⟨g4, 0, none⟩) ((S.e.bit p b).turns + 4) cap4)).setCell ⟨w.heap.size, 1, none⟩ (.int .u64 ((S.e.bit p b).size : Int))) := ((Frame.refl (fun j => j = w.heap.size) w3).setCell (p := ⟨w.heap.size, 0, none⟩) (.inl rfl) _).setCell (p := ⟨w.heap.size, 1, none⟩) (.inl rfl) _
  have r2 := ownsRow_frame r64 f1 (fun j hj e => by simp [Value.ownBlock] at hj; omega)
  have r3 := (World.ownsRow.stored r2 q (num (learn p b))).1
  have s1 := heap_setCell_same w3 w.heap.size 0 _ _ (.slice (some ⟨g4, 0, none⟩) ((S.e.bit p b).turns + 4) cap4) k0
  have s2 := heap_setCell_same _ w.heap.size 1 _ _ (.int .u64 ((S.e.bit p b).size : Int)) s1
  have hor2 : g4 = g0 ∨ w.heap.size ≤ g4 := by
    have hbs := hbel.size
    rcases of_moved hmv with e1 | e1
    · rw [e1]; exact hor
    · exact .inr (Nat.le_trans hbs e1)
  refine ⟨g4, cap4, ?_, ?_, ?_, ?_, ?_, hor2⟩
  · rw [Below.heap_setCell _ _ _ _ (by show w.heap.size ≠ g2; omega), s2]
    rfl
  · rw [Below.heap_setCell _ _ _ _ (by show w.heap.size + 1 ≠ g2; omega), f1.block _ (lt_of_heap k1) (by omega)]
    exact k1
  · refine Row.frame (own := fun j => j = w.heap.size ∨ j = g2) hr ((f1.mono (fun j _ h => .inl h)).setCell (p := ⟨g2, q, none⟩) (.inl (.inr rfl)) _) (fun j hj e => by
      simp [Value.ownBlock] at hj
      rcases e with e | e <;> omega)
  · unfold Row64
    rw [List.length_set, hlen, List.map_set]
    exact r3
  · exact (((hbw.setCell (p := ⟨w.heap.size, 0, none⟩) (Nat.le_refl _) _).setCell (p := ⟨w.heap.size, 1, none⟩) (Nat.le_refl _) _)).setCell (p := ⟨g2, q, none⟩) hgg _
theorem laid64 {w3 : World} {X g n cap : Nat} {l : List Nat} {cs : Array Value} {t : TypeId} (h : Row64 w3 (.slice (some ⟨g, 0, none⟩) n cap) l) (hc : w3.heap[X]? = some (.cells cs t (0, 0))) (ht : t ≠ 33) (a b : Value) :
    Row64 ((w3.setCell ⟨X, 0, none⟩ a).setCell ⟨X, 1, none⟩ b) (.slice (some ⟨g, 0, none⟩) n cap) l := by
  have hne := row64_ne h hc ht
  exact ownsRow_frame h (((Frame.refl (fun j => j = X) w3).setCell (p := ⟨X, 0, none⟩) (.inl rfl) _).setCell (p := ⟨X, 1, none⟩) (.inl rfl) _) (fun j hj e => by simp [Value.ownBlock] at hj; omega)
theorem putting_start {w w2 : World} {s : Tr} {g cap g2 N cap2 : Nat} (he : Row w (.slice (some ⟨g, 0, none⟩) (s.e.turns + 4) cap) (be (s.e.turns + 4) s.e.low)) (hsl : s.l.length = N)
    (hr : w2.ownsRow 0 33 1 (.slice (some ⟨g2, 0, none⟩) N cap2) N (s.l.map num))
    (hb : Below ((w.alloc (.cells #[.slice (some ⟨g, 0, none⟩) (s.e.turns + 4) cap, .int .u64 (s.e.size : Int)] 35)).alloc (.cells #[.slice none 0 0, .int .u64 0] 35)).heap.size ((w.alloc (.cells #[.slice (some ⟨g, 0, none⟩) (s.e.turns + 4) cap, .int .u64 (s.e.size : Int)] 35)).alloc (.cells #[.slice none 0 0, .int .u64 0] 35)) w2) :
    Putting w g s g2 N cap2 w2 := by
  obtain ⟨k0, k1, k2, hbw⟩ := behind hb
  refine ⟨g, cap, k0, k1, ?_, ?_, hbw, .inl rfl⟩
  · exact Row.below he hbw (fun j hj => ownsRow_lt he j hj)
  · unfold Row64; rw [hsl]; exact hr
end Go.Proofs.Ytjfoolhgjnnhgaa.Rc
