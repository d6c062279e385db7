/-
  Package freq: the contract of Signs; and of none.
-/
import Derived.Test.YteacmcckhjabmaaFreqDev
import Derived.Laws.MakeOwn
namespace Go.Proofs.Yteacmcckhjabmaa.Fq
open Go.RowKit
def u8s (l : List Nat) : List Value := l.map fun (n : Nat) => Value.int .u8 (n : Int)
def i64s (l : List Nat) : List Value := l.map fun (n : Nat) => Value.int .i64 (n : Int)
theorem info8 : (Try.prog.info? 5).map (fun i => (i.zero, i.size, i.bytes)) = some (some (.int .u8 0), 1, 1) := by kernel_rfl
theorem infoI : (Try.prog.info? 3).map (fun i => (i.zero, i.size, i.bytes)) = some (some (.int .i64 0), 1, 8) := by kernel_rfl
/-- k signs and counts are written to two new rows. -/
structure Signing (w : World) (O : Paint) (c1 c2 g1 g2 : Nat) (l : List (Nat × Nat)) (k : Nat) (wr : World) (O' : Paint) : Prop where
  step : Step [] w O wr O'
  new1 : w.heap.size ≤ g1
  new2 : w.heap.size ≤ g2
  ne : g1 ≠ g2
  xs : ∃ xs : List Nat, xs.length = l.length ∧ (∀ j, j < k → xs[j]? = some (at' l j).1) ∧ Held wr O' c1 5 (.slice (some ⟨g1, 0, none⟩) l.length l.length) (u8s xs)
  ys : ∃ ys : List Nat, ys.length = l.length ∧ (∀ j, j < k → ys[j]? = some (at' l j).2) ∧ Held wr O' c2 3 (.slice (some ⟨g2, 0, none⟩) l.length l.length) (i64s ys)
namespace Signing
variable {w : World} {O : Paint} {c1 c2 g1 g2 : Nat} {l : List (Nat × Nat)} {k : Nat} {wr : World} {O' : Paint}
theorem idle {wr' : World} (h : Signing w O c1 c2 g1 g2 l k wr O') (hs : Step [] wr O' wr' O') : Signing w O c1 c2 g1 g2 l k wr' O' := by
  obtain ⟨a, b, c, d, ⟨xs, x1, x2, x3⟩, ⟨ys, y1, y2, y3⟩⟩ := h
  exact ⟨a.trans hs, b, c, d, ⟨xs, x1, x2, x3.step hs (by simp)⟩, ⟨ys, y1, y2, y3.step hs (by simp)⟩⟩
theorem start {cs1 cs2 : Array Value} {W : World} (h1 : W.heap[g1]? = some (.cells cs1 5 (0, 0))) (h2 : W.heap[g2]? = some (.cells cs2 3 (0, 0))) (e1 : cs1.toList = u8s (List.replicate l.length 0)) (e2 : cs2.toList = i64s (List.replicate l.length 0))
    (hl : l.length ≤ maxLen) (n1 : w.heap.size ≤ g1) (n2 : w.heap.size ≤ g2) (hne : g1 ≠ g2) (hs : ∀ O, Step [] w O W O) :
    ∃ O', Signing w O c1 c2 g1 g2 l 0 W O' := by
  have s1 : cs1.size = l.length := by rw [← Array.length_toList, e1]; simp [u8s]
  have s2 : cs2.size = l.length := by rw [← Array.length_toList, e2]; simp [i64s]
  refine ⟨fun k => if k < w.heap.size then O k else if k = g1 then c1 else c2, ⟨(hs O).frame, fun k hk => by simp [hk]⟩, n1, n2, hne, ⟨List.replicate l.length 0, by simp, fun j hj => by omega, ⟨?_, ?_⟩⟩, ⟨List.replicate l.length 0, by simp, fun j hj => by omega, ⟨?_, ?_⟩⟩⟩
  · refine ⟨by simp, .inr ⟨g1, l.length, cs1, by simp [u8s], Nat.zero_le _, h1, by simp [u8s], hl, by simp [s1], ?_⟩⟩
    rw [e1]; exact List.take_of_length_le (by simp)
  · intro j hj
    simp [Value.ownBlock] at hj; subst hj
    show (if g1 < w.heap.size then O g1 else if g1 = g1 then c1 else c2) = c1
    rw [if_neg (by omega), if_pos rfl]
  · refine ⟨by simp, .inr ⟨g2, l.length, cs2, by simp [i64s], Nat.zero_le _, h2, by simp [i64s], hl, by simp [s2], ?_⟩⟩
    rw [e2]; exact List.take_of_length_le (by simp)
  · intro j hj
    simp [Value.ownBlock] at hj; subst hj
    show (if g2 < w.heap.size then O g2 else if g2 = g1 then c1 else c2) = c2
    rw [if_neg (by omega), if_neg (fun e => hne e.symm)]
theorem put (h : Signing w O c1 c2 g1 g2 l k wr O') (hk : k < l.length) (u1 u2 : Value) (hu1 : u1 = .int .u8 ((at' l k).1 : Int)) (hu2 : u2 = .int .i64 ((at' l k).2 : Int)) :
    Signing w O c1 c2 g1 g2 l (k + 1) ((wr.setCell ⟨g1, k, none⟩ u1).setCell ⟨g2, k, none⟩ u2) O' ∧ Signing w O c1 c2 g1 g2 l (k + 1) ((wr.setCell ⟨g2, k, none⟩ u2).setCell ⟨g1, k, none⟩ u1) O' := by
  subst hu1 hu2
  obtain ⟨a, b, c, d, ⟨xs, x1, x2, x3⟩, ⟨ys, y1, y2, y3⟩⟩ := h
  have e1 : u8s (xs.set k (at' l k).1) = (u8s xs).set k (.int .u8 ((at' l k).1 : Int)) := by simp [u8s, List.map_set]
  have e2 : i64s (ys.set k (at' l k).2) = (i64s ys).set k (.int .i64 ((at' l k).2 : Int)) := by simp [i64s, List.map_set]
  have q1 : ∀ j, j < k + 1 → (xs.set k (at' l k).1)[j]? = some (at' l j).1 := by
    intro j hj
    by_cases e : j = k
    · subst e; rw [List.getElem?_set_self (by omega)]
    · rw [List.getElem?_set_ne (fun h => e h.symm)]; exact x2 j (by omega)
  have q2 : ∀ j, j < k + 1 → (ys.set k (at' l k).2)[j]? = some (at' l j).2 := by
    intro j hj
    by_cases e : j = k
    · subst e; rw [List.getElem?_set_self (by omega)]
    · rw [List.getElem?_set_ne (fun h => e h.symm)]; exact y2 j (by omega)
  have o1 : (Value.slice (some ⟨g1, 0, none⟩) l.length l.length).ownBlock ≠ some g2 := by simp [Value.ownBlock]; exact d
  have o2 : (Value.slice (some ⟨g2, 0, none⟩) l.length l.length).ownBlock ≠ some g1 := by simp [Value.ownBlock]; exact fun e => d e.symm
  refine ⟨⟨(a.setCell (p := ⟨g1, k, none⟩) (.inr b) _).setCell (p := ⟨g2, k, none⟩) (.inr c) _, b, c, d, ⟨xs.set k (at' l k).1, by simpa using x1, q1, ?_⟩, ⟨ys.set k (at' l k).2, by simpa using y1, q2, ?_⟩⟩, ⟨(a.setCell (p := ⟨g2, k, none⟩) (.inr c) _).setCell (p := ⟨g1, k, none⟩) (.inr b) _, b, c, d, ⟨xs.set k (at' l k).1, by simpa using x1, q1, ?_⟩, ⟨ys.set k (at' l k).2, by simpa using y1, q2, ?_⟩⟩⟩
  · rw [e1]; exact (x3.set k _).setCell_other (p := ⟨g2, k, none⟩) o1 _
  · rw [e2]; exact (y3.setCell_other (p := ⟨g1, k, none⟩) o2 _).set k _
  · rw [e1]; exact (x3.setCell_other (p := ⟨g2, k, none⟩) o1 _).set k _
  · rw [e2]; exact (y3.set k _).setCell_other (p := ⟨g1, k, none⟩) o2 _
theorem all (h : Signing w O c1 c2 g1 g2 l l.length wr O') : Held wr O' c1 5 (.slice (some ⟨g1, 0, none⟩) l.length l.length) (u8s (l.map (·.1))) ∧ Held wr O' c2 3 (.slice (some ⟨g2, 0, none⟩) l.length l.length) (i64s (l.map (·.2))) := by
  obtain ⟨a, b, c, d, ⟨xs, x1, x2, x3⟩, ⟨ys, y1, y2, y3⟩⟩ := h
  have e1 : xs = l.map (·.1) := by
    apply List.ext_getElem?
    intro j
    by_cases hj : j < l.length
    · rw [x2 j hj]; simp [at', List.getD, hj]
    · rw [List.getElem?_eq_none (by omega), List.getElem?_eq_none (by simp; omega)]
  have e2 : ys = l.map (·.2) := by
    apply List.ext_getElem?
    intro j
    by_cases hj : j < l.length
    · rw [y2 j hj]; simp [at', List.getD, hj]
    · rw [List.getElem?_eq_none (by omega), List.getElem?_eq_none (by simp; omega)]
  rw [← e1, ← e2]
  exact ⟨x3, y3⟩
theorem facts (h : Signing w O c1 c2 g1 g2 l k wr O') : wr.frozen? ⟨g1, k, none⟩ = false ∧ wr.frozen? ⟨g2, k, none⟩ = false ∧ g1 < wr.heap.size ∧ g2 < wr.heap.size := by
  obtain ⟨a, b, c, d, ⟨xs, x1, x2, x3⟩, ⟨ys, y1, y2, y3⟩⟩ := h
  exact ⟨x3.free k, y3.free k, x3.lt rfl, y3.lt rfl⟩
theorem cells (h : Signing w O c1 c2 g1 g2 l k wr O') (hk : k < l.length) : (∃ x : Nat, wr.cell? ⟨g1, k, none⟩ = some (.int .u8 (x : Int))) ∧ (∃ y : Nat, wr.cell? ⟨g2, k, none⟩ = some (.int .i64 (y : Int))) := by
  obtain ⟨a, b, c, d, ⟨xs, x1, x2, x3⟩, ⟨ys, y1, y2, y3⟩⟩ := h
  exact ⟨⟨_, x3.cell (j := k) (x := .int .u8 ((xs[k]'(by omega) : Nat) : Int)) (by simp [u8s, x1, hk])⟩, ⟨_, y3.cell (j := k) (x := .int .i64 ((ys[k]'(by omega) : Nat) : Int)) (by simp [i64s, y1, hk])⟩⟩
end Signing
theorem two_alloc (w : World) (o1 o2 : Obj) : ((w.alloc o1).alloc o2).drew.heap[w.heap.size]? = some o1 ∧ ((w.alloc o1).alloc o2).drew.heap[w.heap.size + 1]? = some o2 ∧ (∀ O, Step [] w O ((w.alloc o1).alloc o2).drew O) ∧ w.heap.size + 1 < ((w.alloc o1).alloc o2).drew.heap.size := by
  have h1 := heap_alloc_new (w.alloc o1) o2
  rw [World.size_alloc] at h1
  refine ⟨?_, h1, fun O => ((((Step.refl [] w O).alloc o1).alloc o2)).drew, ?_⟩
  · show ((w.alloc o1).alloc o2).heap[w.heap.size]? = some o1
    rw [Below.heap_alloc (w.alloc o1) o2 w.heap.size (by rw [World.size_alloc]; omega)]
    exact heap_alloc_new w o1
  · show w.heap.size + 1 < ((w.alloc o1).alloc o2).heap.size
    rw [World.size_alloc, World.size_alloc]; omega
set_option maxHeartbeats 2000000 in
theorem signs_any {w : World} {O : Paint} {c a : Nat} {v : Value} {l : List (Nat × Nat)} (h : TabAt w O c a v l) (ht : Tab 255 l) (hl : l.length ≤ 1000000) (c1 c2 : Nat) :
    Calls Try.prog 107 #[.pointer (some ⟨a, 0, none⟩)] w fun x w' => ∃ v1 v2, x = .returned (.tuple #[v1, v2]) ∧ ∃ g1 g2 O', v1 = .slice (some ⟨g1, 0, none⟩) l.length l.length ∧ v2 = .slice (some ⟨g2, 0, none⟩) l.length l.length ∧ Signing w O c1 c2 g1 g2 l l.length w' O' := by
  have HA := Lib.hid (all_any h)
  have H := Lib.hid h
  have HT := Lib.hid ht
  obtain ⟨i0, hi, hz0, hz1, hz2⟩ := info_parts info8
  obtain ⟨j0, hj, hy0, hy1, hy2⟩ := info_parts infoI
  have mk8 : ∀ w, (Instr.makeSlice 73 (.int .i64 (l.length : Int)) (.int .i64 (l.length : Int))).run Try.prog w = .ok (.slice (some ⟨w.heap.size, 0, none⟩) l.length l.length) (w.alloc (.cells (madeCells #[.int .u8 0] l.length) 5)) := fun w => by
    have := run_make (P := Try.prog) w 73 5 i0 (.int .u8 0) Try.underlying73 hi hz0 .i64 .i64 (l.length : Int) (l.length : Int) (by omega) (by omega) (by rw [hz2]; omega) (by omega)
    rw [hz1] at this
    simp only [Int.toNat_natCast, Nat.mul_one] at this
    exact this
  have mkI : ∀ w, (Instr.makeSlice 35 (.int .i64 (l.length : Int)) (.int .i64 (l.length : Int))).run Try.prog w = .ok (.slice (some ⟨w.heap.size, 0, none⟩) l.length l.length) (w.alloc (.cells (madeCells #[.int .i64 0] l.length) 3)) := fun w => by
    have := run_make (P := Try.prog) w 35 3 j0 (.int .i64 0) Try.underlying35 hj hy0 .i64 .i64 (l.length : Int) (l.length : Int) (by omega) (by omega) (by rw [hy2]; omega) (by omega)
    rw [hy1] at this
    simp only [Int.toNat_natCast, Nat.mul_one] at this
    exact this
  have E1 := Lib.hid (show (madeCells #[Value.int .u8 0] l.length).toList = u8s (List.replicate l.length 0) by rw [toList_madeCells_one]; simp [u8s])
  have E2 := Lib.hid (show (madeCells #[Value.int .i64 0] l.length).toList = i64s (List.replicate l.length 0) by rw [toList_madeCells_one]; simp [i64s])
  have hml : l.length ≤ maxLen := by unfold maxLen; omega
  have HML := Lib.hid hml
  generalize madeCells #[Value.int .u8 0] l.length = A1 at *
  generalize madeCells #[Value.int .i64 0] l.length = A2 at *
  obtain ⟨a0, cap, hv⟩ : ∃ a0, ∃ cap, v = .slice a0 l.length cap := by
    rcases h.2.form with ⟨rfl, rfl⟩ | ⟨g, cap, rfl, _⟩
    · exact ⟨none, 0, rfl⟩
    · exact ⟨_, cap, rfl⟩
  have hcell := h.2.form
  subst hv
  clear h ht hi hz0 hz1 hz2 hj hy0 hy1 hy2 hml
  have HC := Lib.hid hcell
  clear hcell
  go_enter Try.func107, Try.ntmps107
  go_wp2_with fail
  refine HA.out.mono ?_
  rintro x w1 ⟨rfl, rfl⟩
  go_wp2
  go_region
  focus
    obtain ⟨t1, t2, t3, t4⟩ := two_alloc w (.cells A1 5) (.cells A2 3)
    obtain ⟨O1, hS⟩ := Signing.start (c1 := c1) (c2 := c2) (w := w) (O := O) (l := l) t1 t2 E1.out E2.out HML.out (Nat.le_refl _) (by omega) (by omega) t3
    generalize ((w.alloc (.cells A1 5)).alloc (.cells A2 3)).drew = W0 at *
    generalize hg2 : w.heap.size + 1 = g2 at *
    generalize hg1 : w.heap.size = g1 at *
  rotate_left
  focus
    obtain ⟨t1, t2, t3, t4⟩ := two_alloc w (.cells A2 3) (.cells A1 5)
    obtain ⟨O1, hS⟩ := Signing.start (c1 := c1) (c2 := c2) (w := w) (O := O) (l := l) t2 t1 E1.out E2.out HML.out (by omega) (Nat.le_refl _) (by omega) t3
    generalize ((w.alloc (.cells A2 3)).alloc (.cells A1 5)).drew = W0 at *
    generalize hg1 : w.heap.size + 1 = g1 at *
    generalize hg2 : w.heap.size = g2 at *
  all_goals
    have HS := Lib.hid hS
    clear hS t1 t2 t3 t4 hg1 hg2 E1 E2 mk8 mkI HA
    go_wp2_with fail
    go_loopw [7, 8, 19] (fun _ _ i wr => ∃ (k : Nat) (O' : Paint), k ≤ l.length ∧ i = .int .i64 k ∧ Signing w O c1 c2 g1 g2 l k wr O') (fun _ _ i _ => l.length - (intOf i).toNat)
    case atStart => exact ⟨0, _, by omega, rfl, HS.out⟩
    case round =>
      clear HS
      obtain ⟨k, O', hk, rfl, hS⟩ := hrel
      by_cases hlt : k < l.length
      · rcases HC.out with ⟨_, h0⟩ | ⟨g, cap', hva, hcap, hml, _, _, _⟩
        · rw [h0] at hlt; simp at hlt
        · simp only [Value.slice.injEq, true_and] at hva
          obtain ⟨rfl, rfl⟩ := hva
          unfold maxLen at hml
          have hg := H.out.2.lt (k := g) rfl
          have c0 := (hS.step.cell (p := ⟨g, k * 2, none⟩) hg (by simp)).trans (H.out.2.cell (flat_even l k hlt))
          have c1' := (hS.step.cell (p := ⟨g, k * 2 + 1, none⟩) hg (by simp)).trans (H.out.2.cell (flat_odd l k hlt))
          have hta := tab_at HT.out hlt
          go_upto_region 6 with (fail)
          have hS1 := hS.idle ((Step.refl [] wr O').alloc (.cells #[.int .u8 ((at' l k).1 : Int), .int .u8 ((at' l k).2 : Int)] 172))
          have b0 : (wr.alloc (.cells #[.int .u8 ((at' l k).1 : Int), .int .u8 ((at' l k).2 : Int)] 172)).cell? ⟨wr.heap.size, 0, none⟩ = some (.int .u8 ((at' l k).1 : Int)) := (Blk.new wr O 0 _).cell 0
          have b1 : (wr.alloc (.cells #[.int .u8 ((at' l k).1 : Int), .int .u8 ((at' l k).2 : Int)] 172)).cell? ⟨wr.heap.size, 1, none⟩ = some (.int .u8 ((at' l k).2 : Int)) := (Blk.new wr O 0 _).cell 1
          have n1 : g1 ≠ wr.heap.size := by have := hS.facts; omega
          have n2 : g2 ≠ wr.heap.size := by have := hS.facts; omega
          generalize wr.alloc (.cells #[.int .u8 ((at' l k).1 : Int), .int .u8 ((at' l k).2 : Int)] 172) = W1 at *
          generalize wr.heap.size = X at *
          have f1 := hS1.facts
          obtain ⟨f1, f2, f3, f4⟩ := f1
          obtain ⟨⟨z1, hz1⟩, ⟨z2, hz2⟩⟩ := hS1.cells hlt
          have n3 : g1 ≠ g2 := hS1.ne
          have HS1 := Lib.hid hS1
          have HPUT := Lib.hid (fun u1 u2 h1 h2 => hS1.put hlt u1 u2 h1 h2)
          clear hS hS1 c0 c1'
          generalize (at' l k).1 = x1 at *
          generalize (at' l k).2 = x2 at *
          have e1 : IntKind.i64.wrap (x2 : Int) = (x2 : Int) := IntWalk.i64_in _ (by omega)
          go_region
          all_goals
            obtain ⟨p1, p2⟩ := HPUT.out _ _ rfl rfl
            have P1 := Lib.hid (p1.idle (Step.refl [] _ O').drew)
            have P2 := Lib.hid (p2.idle (Step.refl [] _ O').drew)
            clear p1 p2 HPUT hz1 hz2 f1 f2 f3 f4 n1 n2 n3 e1 b0 b1
            go_wp2_with fail
            go_roundw
            case rel => exact ⟨k + 1, O', by omega, by go_num, by first | exact P1.out | exact P2.out⟩
            case measure => simp [intOf]; omega
      · obtain rfl : k = l.length := by omega
        have HS1 := Lib.hid hS
        clear hS
        go_wp2_with fail
        go_ret2
        exact ⟨.slice (some ⟨g1, 0, none⟩) l.length l.length, .slice (some ⟨g2, 0, none⟩) l.length l.length, rfl, g1, g2, O', rfl, rfl, HS1.out⟩
end Go.Proofs.Yteacmcckhjabmaa.Fq
