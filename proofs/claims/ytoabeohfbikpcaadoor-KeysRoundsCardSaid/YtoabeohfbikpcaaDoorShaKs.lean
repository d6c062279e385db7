/-
  Layer 23, the document's constants: the contract of Constants.
-/
import Derived.Test.YtoabeohfbikpcaaDoorShaRoot
import Derived.Deep.AppendLies
set_option linter.unusedVariables false
set_option linter.unusedSimpArgs false
namespace Go.Proofs.YtoabeohfbikpcaaDoor.Sh
open Go.RowKit
open Rc
/-- Words as cells. -/
def u32s (l : List Nat) : List Value := l.map fun n : Nat => Value.int .u32 (n : Int)
theorem held_more {w w' : World} {O : Paint} {c : Nat} {e : TypeId} {v x : Value} {xs : List Value} {o : Obj} {g n cap : Nat} (h : Held w O c e v xs) (hn : xs.length = n) (hr : w'.ownsRow 0 e 1 (.slice (some ⟨g, 0, none⟩) (n + 1) cap) (n + 1) (xs ++ [x])) (hg : (w.alloc o).grownBy w' v.ownBlock) (hm : Moved (w.alloc o) v (.slice (some ⟨g, 0, none⟩) (n + 1) cap)) :
    Step [c] w O w' (Step.paint O w c) ∧ Held w' (Step.paint O w c) c e (.slice (some ⟨g, 0, none⟩) (n + 1) cap) (xs ++ [x]) := by
  have s1 : Step [c] w O w' (Step.paint O w c) := ((((Step.refl [c] w O).alloc o).grown hg (fun k hk => by
    left; simp; exact h.paint k hk))).repaint c
  refine ⟨s1, ⟨?_, fun k hk => ?_⟩⟩
  · rw [List.length_append, hn]
    exact hr
  · rcases hm with e1 | e1
    · rw [e1] at hk
      rw [Step.paint_old (h.lt hk)]; exact h.paint k hk
    · have := e1 k hk
      rw [World.size_alloc] at this
      exact Step.paint_new (by omega)
theorem info32 : (Tryd.prog.info? 37).map (fun i => (i.zero, i.size, i.bytes)) = some (some (.int .u32 0), 1, 4) := by kernel_rfl
theorem one_cell32 (w : World) (x : Value) (t : TypeId) : ∀ j u, [x][j]? = some u → (w.alloc (.cells #[x] t)).cell? ((⟨w.heap.size, 0, none⟩ : Addr).add j) = some u := by
  intro j u hu
  cases j with
  | zero =>
    simp only [List.getElem?_cons_zero, Option.some.injEq] at hu
    subst hu
    show (w.alloc (.cells #[x] t)).cell? ⟨w.heap.size, 0 + 0, none⟩ = _
    unfold World.cell?
    dsimp only
    rw [heap_alloc_new]
    rfl
  | succ j => simp at hu
theorem kL_length : kL.length = 64 := rfl
theorem kL_take {k : Nat} (h : k < 64) : kL.take (k + 1) = kL.take k ++ [root (prs (k + 1)) 3] := by
  rw [k_root h, List.take_succ_eq_append_getElem (by rw [kL_length]; exact h)]
  congr 2
  rw [List.getD_eq_getElem?_getD, List.getElem?_eq_getElem (by rw [kL_length]; exact h)]
  rfl
set_option maxRecDepth 100000 in
set_option maxHeartbeats 4000000 in
theorem constants_any (w : World) :
    Calls Tryd.prog 6 #[] w fun z w' => ∃ v, z = .returned v ∧ Below w.heap.size w w' ∧ w'.ownsRow 0 37 1 v 64 (u32s kL) := by
  have HPR := Lib.hid (fun (i : Nat) (hi : i < 64) (W : World) => prime_any i hi W)
  have HRO := Lib.hid (fun (i : Nat) (hi : i < 64) (W : World) => root_any (prs (i + 1)) 3 (prs_next hi).2 (.inr rfl) W)
  obtain ⟨i0, hi, hz0, hz1, hz2⟩ := info_parts info32
  have HI := Lib.hid hi
  have HZ0 := Lib.hid hz0
  have HZ1 := Lib.hid hz1
  have HZ2 := Lib.hid hz2
  clear hi hz0 hz1 hz2
  go_enter Tryd.func6, Tryd.ntmps6
  go_wp2_with fail
  go_loopw [1, 2, 3, 4, 5, 6, 7, 8, 9, 10, 11, 12] (fun v i _ _ _ _ _ _ _ _ _ _ wr => ∃ (x : Value) (k : Nat) (O : Paint), v = x ∧ k ≤ 64 ∧ i = .int .i64 (k : Int) ∧ Below w.heap.size w wr ∧ Clear w.heap.size O ∧ Held wr O 1 37 x (u32s (kL.take k))) (fun _ i _ _ _ _ _ _ _ _ _ _ _ => 64 - (intOf i).toNat)
  case atStart => exact ⟨_, 0, fun _ => 0, rfl, by omega, rfl, Below.refl _ _, fun _ _ => rfl, ⟨World.ownsRow_nil _ _ _ _, fun k hk => by cases hk⟩⟩
  case round =>
    obtain ⟨x, k, O, rfl, hk, rfl, hb, hc, hh⟩ := hrel
    have HB := Lib.hid hb
    have HC := Lib.hid hc
    have HH := Lib.hid hh
    clear hb hc hh
    by_cases hlt : k < 64
    · as_aux_lemma =>
      have HK := Lib.hid (kL_take hlt)
      have hll : (kL.take k).length = k := by rw [List.length_take, kL_length]; omega
      have hul : (u32s (kL.take k)).length = k := by rw [u32s, List.length_map, hll]
      clear hll
      generalize kL.take k = l at *
      go_wp2_with fail
      refine (HPR.out k hlt _).mono ?_
      rintro z w1 ⟨rfl, rfl⟩
      go_wp2_with fail
      refine (HRO.out k hlt _).mono ?_
      rintro z w2 ⟨rfl, hb2⟩
      have HB2 := Lib.hid (HB.out.trans (hb2.mono HB.out.size))
      have hs2 := Step.of_below_same hb2 O
      have HH2 := Lib.hid (HH.out.step hs2 (by simp))
      clear hb2 hs2 HB HH
      generalize root (prs (k + 1)) 3 = r at *
      have HROW := Lib.hid HH2.out.row
      rw [hul] at HROW
      have hm1 : k + 1 ≤ maxLen := by unfold maxLen; omega
      have hm2 : (k + 1) * 4 ≤ 140737488355328 := by omega
      have HMO := Lib.hid (fun (W3 : World) (g cap : Nat) (o : Obj) => held_more HH2.out (w' := W3) (x := .int .u32 (r : Int)) (o := o) (g := g) (n := k) (cap := cap) hul)
      go_wp2_with (at_builtin; refine wpList_append_one _ rfl _ _ 24 rfl 37 i0 (.int .u32 0) 1 4 Tryd.underlying24 HI.out HZ0.out HZ1.out HZ2.out rfl (by decide) u1 k _ rfl (HROW.out.alloc _) ⟨w2.heap.size, 0, none⟩ 1 [.int .u32 (r : Int)] rfl rfl (one_cell32 _ _ _) (by intro u hu; simp at hu; subst hu; rfl) hm1 hm2 ?_; intro g9 cap9 w10 hown10 hgr10 hmv10; have HT := Lib.hid (HMO.out w10 g9 cap9 _ hown10 hgr10 hmv10); clear hown10 hgr10 hmv10)
      obtain ⟨s1, h1⟩ := HT.out
      have HB3 := Lib.hid (HC.out.below s1 (by simp) HB2.out.size HB2.out)
      have HC3 := Lib.hid (HC.out.step s1 HB2.out.size)
      have HH3 := Lib.hid h1
      clear s1 h1 HT HMO
      rw [show u32s l ++ [Value.int .u32 (r : Int)] = u32s (l ++ [r]) from by simp [u32s], ← HK.out] at HH3
      go_roundw
      case rel => exact ⟨_, k + 1, _, rfl, by omega, by go_num, HB3.out, HC3.out, HH3.out⟩
      case measure => simp [intOf]; omega
    · as_aux_lemma =>
      obtain rfl : k = 64 := by omega
      rw [List.take_of_length_le (by rw [kL_length]; exact Nat.le_refl _)] at HH
      have HR := Lib.hid HH.out.row
      rw [show (u32s kL).length = 64 from rfl] at HR
      go_wp2_with fail
      go_ret
      exact ⟨_, rfl, HB.out, HR.out⟩
end Go.Proofs.YtoabeohfbikpcaaDoor.Sh
