/-
  The reference of layer 5: contracts of PutAny, Part and Put.
-/
import Derived.Test.YteacmcckhjabmaaFreqSets
import Derived.Test.YteacmcckhjabmaaRcRefs
namespace Go.Proofs.Yteacmcckhjabmaa.Fq
open Go.RowKit
open Rc (Enc Row be be_length Fine Gives)
theorem laidZ {w w3 : World} {g n cap Z : Nat} {l : List UInt8} {cs : Array Value} {t : TypeId} (h : Row w3 (.slice (some ⟨g, 0, none⟩) n cap) l) (hc : w3.heap[Z]? = some (.cells cs t (0, 0))) (ht : t ≠ 5) (hb : Below w.heap.size w w3) (hZ : w.heap.size ≤ Z) (a b : Value) :
    Row ((w3.setCell ⟨Z, 0, none⟩ a).setCell ⟨Z, 1, none⟩ b) (.slice (some ⟨g, 0, none⟩) n cap) l ∧ Below w.heap.size w ((w3.setCell ⟨Z, 0, none⟩ a).setCell ⟨Z, 1, none⟩ b) := by
  have hne := Rc.row_ne h hc ht
  refine ⟨h.frame (own := fun j => j = Z) (((Frame.refl (fun j => j = Z) w3).setCell (p := ⟨Z, 0, none⟩) (.inl rfl) _).setCell (p := ⟨Z, 1, none⟩) (.inl rfl) _) (fun j hj e => by simp [Value.ownBlock] at hj; omega), ?_⟩
  exact (hb.setCell (p := ⟨Z, 0, none⟩) hZ _).setCell (p := ⟨Z, 1, none⟩) hZ _
theorem three {w : World} {a b c d : Value} {arr : Array Value} {t u : TypeId} :
    (((w.alloc (.cells #[a, b] t)).alloc (.cells arr u)).alloc (.cells #[c, d] t)).heap[w.heap.size]? = some (.cells #[a, b] t (0, 0)) ∧
    (((w.alloc (.cells #[a, b] t)).alloc (.cells arr u)).alloc (.cells #[c, d] t)).heap[w.heap.size + 1]? = some (.cells arr u (0, 0)) ∧
    (((w.alloc (.cells #[a, b] t)).alloc (.cells arr u)).alloc (.cells #[c, d] t)).heap[w.heap.size + 1 + 1]? = some (.cells #[c, d] t (0, 0)) ∧
    Below w.heap.size w (((w.alloc (.cells #[a, b] t)).alloc (.cells arr u)).alloc (.cells #[c, d] t)) := by
  refine ⟨?_, ?_, ?_, bel_alloc _ (bel_alloc _ (bel_alloc _ (Below.refl _ _)))⟩
  · rw [Below.heap_alloc _ _ _ (by simp; omega), Below.heap_alloc _ _ _ (by simp)]
    exact heap_alloc_new w _
  · rw [Below.heap_alloc _ _ _ (by simp)]
    have := heap_alloc_new (w.alloc (.cells #[a, b] t)) (.cells arr u)
    rw [World.size_alloc] at this
    exact this
  · have := heap_alloc_new ((w.alloc (.cells #[a, b] t)).alloc (.cells arr u)) (.cells #[c, d] t)
    rw [World.size_alloc, World.size_alloc] at this
    exact this
theorem setA_ne (N : Nat → Bool) : ¬ setA N = #[] := fun e => by
  have := setA_size N
  rw [e] at this
  simp at this
theorem moved_from {w w1 : World} {v0 v : Value} (hs : w.heap.size ≤ w1.heap.size) (h : Moved w1 v0 v) : Moved w v0 v := by
  rcases h with h | h
  · exact .inl h
  · exact .inr fun k hk => Nat.le_trans hs (h k hk)
/-- What is below a sign and not in a set, as the loop counts it. -/
def low (N : Nat → Bool) (s k : Nat) : Nat := free N (min k s)
theorem low_step (N : Nat → Bool) (s k : Nat) : low N s (k + 1) = if N k then low N s k else if k < s then low N s k + 1 else low N s k := by
  unfold low
  by_cases h : k < s
  · rw [show min (k + 1) s = k + 1 from by omega, show min k s = k from by omega, if_pos h]; rfl
  · rw [show min (k + 1) s = s from by omega, show min k s = s from by omega, if_neg h]; split <;> rfl
theorem low_le (N : Nat → Bool) (s k : Nat) : low N s k ≤ k := by
  have := cnt_free N (min k s)
  unfold low
  omega
set_option maxRecDepth 100000 in
set_option maxHeartbeats 2000000 in
theorem rput_other {w : World} {v : Value} {e : Enc} (h : Row w v (be (e.turns + 4) e.low)) (hf : Fine e) (ht : e.turns ≤ 999990) (N : Nat → Bool) (s : Nat) (hs : s < 256) (hN : N s = false) :
    Calls Try.prog 41 #[.agg #[v, .int .u64 (e.size : Int)], .int .u8 (s : Int), .agg (setA N)] w (Gives w v (e.part (free N s) 1 (free N 256))) := by
  obtain ⟨lo, z, t⟩ := e
  simp only at h ht
  obtain ⟨g, cap, hv⟩ := h.form (by rw [be_length]; omega)
  rw [be_length] at hv
  subst hv
  have hfl := free_lt hN hs
  have hcf := cnt_free N 256
  have HF := Lib.hid hf
  have HR := Lib.hid h
  have hne := setA_ne N
  clear h hf
  go_enter Try.func41, Try.ntmps41
  go_wp2_with fail
  obtain ⟨b0, b1, b2, hb⟩ := three (w := w) (a := .slice (some ⟨g, 0, none⟩) (t + 4) cap) (b := .int .u64 (z : Int)) (arr := setA N) (c := .slice none 0 0) (d := .int .u64 0) (t := 76) (u := 78)
  have HRW : Hid (Row ((((w.alloc (.cells #[.slice (some ⟨g, 0, none⟩) (t + 4) cap, .int .u64 (z : Int)] 76)).alloc (.cells (setA N) 78)).alloc (.cells #[.slice none 0 0, .int .u64 0] 76))) (.slice (some ⟨g, 0, none⟩) (t + 4) cap) (be (t + 4) lo)) := Lib.hid (HR.out.below hb (fun k hk => ownsRow_lt HR.out k hk))
  generalize (((w.alloc (.cells #[.slice (some ⟨g, 0, none⟩) (t + 4) cap, .int .u64 (z : Int)] 76)).alloc (.cells (setA N) 78)).alloc (.cells #[.slice none 0 0, .int .u64 0] 76)) = W at *
  have HZ0 : Hid (w.heap.size ≤ w.heap.size + 1 + 1) := Lib.hid (by omega)
  generalize w.heap.size + 1 + 1 = Z at *
  generalize w.heap.size + 1 = Y at *
  obtain ⟨x0, x1, _, _, hXl⟩ := two b0
  obtain ⟨z0, z1, zf0, zf1, hZl⟩ := two b2
  have HB := Lib.hid hb
  have HB1 := Lib.hid b1
  have HB2 := Lib.hid b2
  generalize hXe : w.heap.size = X at *
  have HXE := Lib.hid hXe
  clear b0 b1 b2 hb HR hXe
  go_loop [7, 8, 9] (fun bl tot i => ∃ k : Nat, k ≤ 256 ∧ i = .int .i64 k ∧ bl = .int .i64 ((low N s k : Nat) : Int) ∧ tot = .int .i64 ((free N k : Nat) : Int)) (fun _ _ i => 256 - (intOf i).toNat)
  case atStart => exact ⟨0, by omega, rfl, by simp [low, free], rfl⟩
  case round =>
    obtain ⟨k, hk, rfl, rfl, rfl⟩ := hrel
    have hck := cnt_free N k
    have hlk := low_le N s k
    by_cases hlt : k < 256
    · obtain ⟨y0, _⟩ := blk_cells HB1.out k hlt
      have HST := Lib.hid (show free N (k + 1) = if N k then free N k else free N k + 1 from rfl)
      have HLS := Lib.hid (low_step N s k)
      generalize free N k = f at *
      generalize low N s k = lw at *
      cases hNk : N k with
      | true =>
        rw [hNk] at y0
        rw [hNk, if_pos rfl] at HST HLS
        clear hNk hN
        go_wp2_with fail
        go_round
        case rel => exact ⟨k + 1, by omega, by go_num, by rw [HLS.out], by rw [HST.out]⟩
        case measure => simp [intOf]; omega
      | false =>
        rw [hNk] at y0
        rw [hNk, if_neg (by simp)] at HST HLS
        clear hNk hN
        by_cases hks : k < s
        · rw [if_pos hks] at HLS
          go_wp2_with fail
          go_round
          case rel => exact ⟨k + 1, by omega, by go_num, by rw [HLS.out]; go_num, by rw [HST.out]; go_num⟩
          case measure => simp [intOf]; omega
        · rw [if_neg hks] at HLS
          go_wp2_with fail
          go_round
          case rel => exact ⟨k + 1, by omega, by go_num, by rw [HLS.out], by rw [HST.out]; go_num⟩
          case measure => simp [intOf]; omega
    · obtain rfl : k = 256 := by omega
      have hlo : low N s 256 = free N s := by unfold low; rw [show min 256 s = s from by omega]
      rw [hlo]
      have HP := Lib.hid (Rc.part_any (e := ⟨lo, z, t⟩) HRW.out HF.out ht (free N s) 1 (free N 256) (Nat.le_refl _) hfl (by omega))
      clear hlo hlk hlt hck
      generalize free N s = f1 at *
      generalize free N 256 = f2 at *
      generalize (Enc.mk lo z t).part f1 1 f2 = e3 at *
      have hf2 : f2 ≤ 256 := by omega
      clear hcf
      go_wp2_with fail
      refine HP.out.mono ?_
      rintro x w3 ⟨v3, rfl, hrow3, hb3, hmv3⟩
      have hX := HXE.out
      clear HXE
      subst hX
      have k2 := (hb3.block _ hZl).trans HB2.out
      obtain ⟨q0, q1, qf0, qf1, hql⟩ := two k2
      obtain ⟨g3, cap3, hv3⟩ := hrow3.form (by rw [be_length]; omega)
      rw [be_length] at hv3
      subst hv3
      have HK2 := Lib.hid k2
      have HR3 := Lib.hid hrow3
      have HB3 := Lib.hid (HB.out.trans (hb3.mono HB.out.size))
      have HMV := Lib.hid (moved_from HB.out.size hmv3)
      clear k2 hrow3 hb3 hmv3 z0 z1 zf0 zf1 x0 x1
      go_wp2
      obtain ⟨c1, c2⟩ := laidZ HR3.out HK2.out (by decide) HB3.out HZ0.out (.slice (some ⟨g3, 0, none⟩) (e3.turns + 4) cap3) (.int .u64 (e3.size : Int))
      refine bodyPost_ret (v := .agg #[.slice (some ⟨g3, 0, none⟩) (e3.turns + 4) cap3, .int .u64 (e3.size : Int)]) ?_ rfl ⟨_, rfl, c1, c2, HMV.out⟩
      simp [results, Try.results41, go_sem, q0, q1]
/-- Two rows that read as a table, with signs or without. -/
def RefV (w : World) (v1 v2 : Value) (l : List (Nat × Nat)) : Prop := ∃ a1 p1 a2 p2, v1 = .slice a1 l.length p1 ∧ v2 = .slice a2 l.length p2 ∧
  ∀ W, Below w.heap.size w W → ∀ k, k < l.length → ∃ g1 g2, a1 = some ⟨g1, 0, none⟩ ∧ a2 = some ⟨g2, 0, none⟩ ∧ W.cell? ⟨g1, k, none⟩ = some (.int .u8 ((at' l k).1 : Int)) ∧ W.cell? ⟨g2, k, none⟩ = some (.int .i64 ((at' l k).2 : Int))
theorem refV_of {w : World} {v1 v2 : Value} {l : List (Nat × Nat)} (h : RefT w v1 v2 l) (h0 : l = [] → v1 = .slice none 0 0 ∧ v2 = .slice none 0 0) : RefV w v1 v2 l := by
  by_cases hn : l = []
  · obtain ⟨rfl, rfl⟩ := h0 hn
    subst hn
    exact ⟨none, 0, none, 0, rfl, rfl, fun W _ k hk => by simp at hk⟩
  · obtain ⟨g1, p1, g2, p2, rfl, rfl, l1, l2, _⟩ := h.form (List.length_pos_iff.2 hn)
    exact ⟨_, _, _, _, rfl, rfl, fun W hb k hk => ⟨g1, g2, rfl, rfl, row_cell (h.below hb).row1 (fst_at l k hk), row_cell (h.below hb).row2 (snd_at l k hk)⟩⟩
def partR (N : Nat → Bool) (s : Nat) (l : List (Nat × Nat)) : Nat × Nat × Bool := match partOf N s l 0 with
  | some (a, n) => (a, n, true)
  | none => (total (allow N l), noneOf N l, false)
theorem putE_eq (e : Enc) (l : List (Nat × Nat)) (N : Nat → Bool) (s : Nat) : putE e l N s = (e.part (partR N s l).1 (partR N s l).2.1 (allOf N l), (partR N s l).2.2) := by
  unfold putE partR
  cases partOf N s l 0 with
  | none => rfl
  | some x => rfl
theorem partOf_snoc (N : Nat → Bool) (s : Nat) (x : Nat × Nat) : ∀ (l : List (Nat × Nat)) (st : Nat), partOf N s (l ++ [x]) st = match partOf N s l st with
    | some r => some r
    | none => if N x.1 then none else if x.1 = s then some (st + total (allow N l), x.2) else none
  | [], st => by simp [partOf, allow, total]
  | y :: l, st => by
    show partOf N s (y :: (l ++ [x])) st = _
    simp only [partOf, allow_cons]
    by_cases h1 : N y.1
    · simp only [h1, if_true]
      rw [partOf_snoc N s x l st]
    · simp only [h1, if_false, Bool.false_eq_true]
      by_cases h2 : y.1 = s
      · simp only [h2, if_true]
      · simp only [h2, if_false]
        rw [partOf_snoc N s x l (st + y.2)]
        simp only [total]
        rw [show st + y.2 + total (allow N l) = st + (y.2 + total (allow N l)) from by omega]
theorem partOf_none (N : Nat → Bool) (s : Nat) : ∀ (l : List (Nat × Nat)) (st : Nat), s ∉ l.map (·.1) → partOf N s l st = none
  | [], _, _ => rfl
  | y :: l, st, h => by
    have h1 : y.1 ≠ s := fun e => h (by simp [e])
    have h2 : s ∉ l.map (·.1) := fun e => h (by simp only [List.map_cons, List.mem_cons]; exact .inr e)
    simp only [partOf, if_neg h1]
    split
    · exact partOf_none N s l st h2
    · exact partOf_none N s l _ h2
/-- What the loop has of the sign's part. -/
def partA (N : Nat → Bool) (s : Nat) (l : List (Nat × Nat)) : Nat × Nat := match partOf N s l 0 with
  | some r => r
  | none => (0, 0)
theorem partA_step (N : Nat → Bool) (s : Nat) (l : List (Nat × Nat)) (hd : (l.map (·.1)).Nodup) (k : Nat) (hk : k < l.length) :
    partA N s (l.take (k + 1)) = if N (at' l k).1 then partA N s (l.take k) else if (at' l k).1 = s then (total (allow N (l.take k)), (at' l k).2) else partA N s (l.take k) := by
  have hnot : (at' l k).1 = s → partOf N s (l.take k) 0 = none := fun e => partOf_none N s _ 0 (fun hm => by
    rw [List.mem_map] at hm
    obtain ⟨y, hy, hys⟩ := hm
    obtain ⟨j, hj, rfl⟩ := List.mem_iff_getElem.1 hy
    have hj' : j < k := by simp at hj; omega
    rw [List.getElem_take] at hys
    have e1 : (at' l k).1 = (l.map (·.1))[k]'(by simpa using hk) := by simp [at', List.getD, hk]
    have e2 : l[j].1 = (l.map (·.1))[j]'(by simp; omega) := by simp
    rw [e1] at e
    rw [e2] at hys
    exact List.pairwise_iff_getElem.1 hd j k (by simp; omega) (by simpa using hk) hj' (hys.trans e.symm))
  unfold partA
  rw [take_next l k hk, partOf_snoc]
  cases h : partOf N s (l.take k) 0 with
  | some r =>
    by_cases h1 : N (at' l k).1
    · simp [h1]
    · by_cases h2 : (at' l k).1 = s
      · rw [hnot h2] at h; cases h
      · simp [h1, h2]
  | none =>
    by_cases h1 : N (at' l k).1
    · simp [h1]
    · by_cases h2 : (at' l k).1 = s
      · have h3 : ¬ N s = true := by rw [← h2]; exact h1
        simp [h2, h3]
      · simp [h1, h2]
theorem partA_le {N : Nat → Bool} {s : Nat} {l : List (Nat × Nat)} {b : Nat} (ht : Tab b l) : (partA N s l).1 + (partA N s l).2 ≤ total (allow N l) := by
  unfold partA
  cases h : partOf N s l 0 with
  | none => simp
  | some r => have := part_bound N s l 0 r.1 r.2 ht h; simp only; omega
theorem partR_of {N : Nat → Bool} {s : Nat} {l : List (Nat × Nat)} {b : Nat} (ht : Tab b l) : partR N s l = if 0 < (partA N s l).2 then ((partA N s l).1, (partA N s l).2, true) else (total (allow N l), noneOf N l, false) := by
  unfold partR partA
  cases h : partOf N s l 0 with
  | none => simp
  | some r =>
    have := part_bound N s l 0 r.1 r.2 ht h
    simp only
    rw [if_pos (by omega)]
def FourBy (w : World) (a b c : Nat) (ok : Bool) (x : Ending) (w' : World) : Prop := x = .returned (.tuple #[.int .u64 (a : Int), .int .u64 (b : Int), .int .u64 (c : Int), .bool ok]) ∧ Below w.heap.size w w'
theorem bel_drewN {B : Nat} {W0 W : World} (n : Nat) (h : Below B W0 W) : Below B W0 (W.drewN n) := ⟨h.os, h.tape, h.output, h.size, h.block⟩
theorem four_end {w w' : World} {fn : Func} {a : Act} {x y z : Nat} {zi : Int} {b : Bool} (hres : fn.results = #[.tmp 6, .tmp 7, .tmp 8, .tmp 9]) (h6 : a.tmps.getD 6 undef = .int .u64 (x : Int)) (h7 : a.tmps.getD 7 undef = .int .u64 (y : Int)) (h8 : a.tmps.getD 8 undef = .int .u64 zi) (h9 : a.tmps.getD 9 undef = .bool b) (hz : (z : Int) = zi) (hb : Below w.heap.size w w') (hd : a.defers = []) :
    bodyPost Try.prog fn (FourBy w x y z b) .ret a w' := by
  subst hz
  have h6' : a.tmps[6]?.getD undef = .int .u64 (x : Int) := by simpa using h6
  have h7' : a.tmps[7]?.getD undef = .int .u64 (y : Int) := by simpa using h7
  have h8' : a.tmps[8]?.getD undef = .int .u64 (z : Int) := by simpa using h8
  have h9' : a.tmps[9]?.getD undef = .bool b := by simpa using h9
  exact bodyPost_ret (v := .tuple #[.int .u64 (x : Int), .int .u64 (y : Int), .int .u64 (z : Int), .bool b]) (by simp [results, hres, h6', h7', h8', h9']) hd ⟨rfl, hb⟩
set_option maxRecDepth 100000 in
set_option maxHeartbeats 4000000 in
theorem rpart_any {w : World} {v1 v2 : Value} {l : List (Nat × Nat)} (h : RefV w v1 v2 l) (ht : Tab 120 l) (hd : (l.map (·.1)).Nodup) (hl : l.length ≤ 1000000) (N : Nat → Bool) (s : Nat) (hs : s < 256) :
    Calls Try.prog 79 #[.agg #[v1, v2], .int .u8 (s : Int), .agg (setA N)] w (FourBy w (partR N s l).1 (partR N s l).2.1 (allOf N l) (partR N s l).2.2) := by
  have HPR := Lib.hid (partR_of (N := N) (s := s) ht)
  generalize partR N s l = r at *
  obtain ⟨a1, p1, a2, p2, rfl, rfl, hcell⟩ := h
  have HT := Lib.hid ht
  have HD := Lib.hid hd
  have HCELL := Lib.hid hcell
  have hne := setA_ne N
  have H0 := Lib.hid (show total (allow N (l.take 0)) = 0 ∧ (allow N (l.take 0)).length = 0 ∧ partA N s (l.take 0) = (0, 0) by simp [allow, total, partA, partOf])
  clear ht hd hcell
  go_enter Try.func79, Try.ntmps79
  go_wp2_with fail
  have hb : Below w.heap.size w ((w.alloc (.cells #[.slice a1 l.length p1, .slice a2 l.length p2] 81)).alloc (.cells (setA N) 78)) := bel_alloc _ (bel_alloc _ (Below.refl _ _))
  have hX : ((w.alloc (.cells #[.slice a1 l.length p1, .slice a2 l.length p2] 81)).alloc (.cells (setA N) 78)).heap[w.heap.size]? = some (.cells #[.slice a1 l.length p1, .slice a2 l.length p2] 81 (0, 0)) := by
    rw [Below.heap_alloc _ _ _ (by simp)]
    exact heap_alloc_new w _
  have hY : ((w.alloc (.cells #[.slice a1 l.length p1, .slice a2 l.length p2] 81)).alloc (.cells (setA N) 78)).heap[w.heap.size + 1]? = some (.cells (setA N) 78 (0, 0)) := by
    have := heap_alloc_new (w.alloc (.cells #[.slice a1 l.length p1, .slice a2 l.length p2] 81)) (.cells (setA N) 78)
    rw [World.size_alloc] at this
    exact this
  have HB := Lib.hid hb
  have HX := Lib.hid hX
  have HY := Lib.hid hY
  clear hb hX hY
  generalize (w.alloc (.cells #[.slice a1 l.length p1, .slice a2 l.length p2] 81)).alloc (.cells (setA N) 78) = W at *
  generalize w.heap.size + 1 = Y at *
  obtain ⟨x0, x1, _, _, hXl⟩ := two HX.out
  have hYl := lt_of_heap HY.out
  generalize hXe : w.heap.size = X at *
  have HXE := Lib.hid hXe
  clear hXe
  go_loopw [10, 11, 12, 13, 14] (fun al n ah sz i wr => ∃ k : Nat, k ≤ l.length ∧ i = .int .i64 k ∧ al = .int .i64 ((total (allow N (l.take k)) : Nat) : Int) ∧ n = .int .i64 (((allow N (l.take k)).length : Nat) : Int) ∧ ah = .int .i64 (((partA N s (l.take k)).1 : Nat) : Int) ∧ sz = .int .i64 (((partA N s (l.take k)).2 : Nat) : Int) ∧ Below W.heap.size W wr) (fun _ _ _ _ i _ => l.length - (intOf i).toNat)
  case atStart => exact ⟨0, by omega, rfl, by rw [H0.out.1]; rfl, by rw [H0.out.2.1]; rfl, by rw [H0.out.2.2]; rfl, by rw [H0.out.2.2]; rfl, Below.refl _ _⟩
  case round =>
    clear H0
    obtain ⟨k, hk, rfl, rfl, rfl, rfl, rfl, hb⟩ := hrel
    have hst := sum_take N HT.out k
    have hpl := partA_le (N := N) (s := s) (tab_take k HT.out)
    have x0' := (hb.cell (p := ⟨X, 0, none⟩) hXl).trans x0
    have x1' := (hb.cell (p := ⟨X, 1, none⟩) hXl).trans x1
    by_cases hlt : k < l.length
    · have hta := tab_at HT.out hlt
      obtain ⟨g1, g2, rfl, rfl, d1, d2⟩ := HCELL.out wr ((by have := HXE.out; subst this; exact HB.out.trans (hb.mono HB.out.size))) k hlt
      obtain ⟨y0, _⟩ := blk_cells ((hb.block Y hYl).trans HY.out) (at' l k).1 hta.1
      have HAS := Lib.hid (show allow N (l.take (k + 1)) = if N (at' l k).1 then allow N (l.take k) else allow N (l.take k) ++ [at' l k] by rw [take_next l k hlt, allow_snoc])
      have HTS := Lib.hid (show total (allow N (l.take k) ++ [at' l k]) = total (allow N (l.take k)) + (at' l k).2 by rw [total_append]; simp [total])
      have HLS := Lib.hid (show (allow N (l.take k) ++ [at' l k]).length = (allow N (l.take k)).length + 1 by simp)
      have HPS := Lib.hid (partA_step N s l HD.out k hlt)
      have HBW := Lib.hid hb
      clear hb x0 x1
      generalize allow N (l.take k) ++ [at' l k] = L1 at *
      generalize allow N (l.take k) = L0 at *
      generalize partA N s (l.take k) = pa at *
      generalize (at' l k).1 = x1 at *
      generalize (at' l k).2 = x2 at *
      cases hNx : N x1 with
      | true =>
        rw [hNx] at y0
        rw [hNx, if_pos rfl] at HAS HPS
        clear hNx
        go_wp2_with fail
        go_roundw
        case rel => exact ⟨k + 1, by omega, by go_num, by rw [HAS.out], by rw [HAS.out], by rw [HPS.out], by rw [HPS.out], HBW.out⟩
        case measure => simp [intOf]; omega
      | false =>
        rw [hNx] at y0
        rw [hNx, if_neg (by simp)] at HAS HPS
        clear hNx
        have k1 : (0 : Int) ≤ (k : Int) := by omega
        have k2 : (k : Int) < (l.length : Int) := by omega
        by_cases hx : x1 = s
        · subst hx
          rw [if_pos rfl] at HPS
          go_upto_region 7 with (fail)
          go_quiet (fail)
          go_wp2_with fail
          go_roundw
          case rel => exact ⟨k + 1, by omega, by go_num, by rw [HAS.out, HTS.out]; go_num, by rw [HAS.out, HLS.out]; go_num, by rw [HPS.out], by rw [HPS.out], bel_drewN _ HBW.out⟩
          case measure => simp [intOf]; omega
        · have hd : ((x1 : Int) == (s : Int)) = false := by rw [beq_eq_false_iff_ne]; omega
          rw [if_neg hx] at HPS
          go_wp2_with fail
          go_roundw
          case rel => exact ⟨k + 1, by omega, by go_num, by rw [HAS.out, HTS.out]; go_num, by rw [HAS.out, HLS.out]; go_num, by rw [HPS.out], by rw [HPS.out], HBW.out⟩
          case measure => simp [intOf]; omega
    · obtain rfl : k = l.length := by omega
      rw [List.take_length] at hst hpl ⊢
      have HB2 := Lib.hid hb
      have hno : noneOf N l = max (allow N l).length 1 := rfl
      have HAL := Lib.hid (show allOf N l = total (allow N l) + noneOf N l from rfl)
      generalize noneOf N l = no at *
      generalize allOf N l = alo at *
      generalize total (allow N l) = tot at *
      generalize (allow N l).length = n at *
      generalize partA N s l = pa at *
      have HNO := Lib.hid hno
      clear hb hno x0 x1 hlt HCELL
      have HXB : Hid (Below w.heap.size w W) := Lib.hid (by have := HXE.out; subst this; exact HB.out)
      clear HB HXE
      by_cases hn : n = 0
      · subst hn
        obtain rfl : no = 1 := by have := HNO.out; omega
        by_cases hp : 0 < pa.2
        · obtain rfl : r = (pa.1, pa.2, true) := by rw [HPR.out, if_pos hp]
          clear HPR
          go_wp2_with fail
          exact four_end (Try.results79) rfl rfl rfl rfl (by rw [HAL.out]; simp) (HXB.out.trans (HB2.out.mono HXB.out.size)) rfl
        · obtain rfl : r = (tot, 1, false) := by rw [HPR.out, if_neg hp]
          clear HPR
          go_wp2_with fail
          exact four_end (Try.results79) rfl rfl rfl rfl (by rw [HAL.out]; simp) (HXB.out.trans (HB2.out.mono HXB.out.size)) rfl
      · have hd0 : ((n : Int) == 0) = false := by rw [beq_eq_false_iff_ne]; omega
        obtain rfl : no = n := by have := HNO.out; omega
        by_cases hp : 0 < pa.2
        · obtain rfl : r = (pa.1, pa.2, true) := by rw [HPR.out, if_pos hp]
          clear HPR
          go_wp2_with fail
          exact four_end (Try.results79) rfl rfl rfl rfl (by rw [HAL.out]; simp) (HXB.out.trans (HB2.out.mono HXB.out.size)) rfl
        · obtain rfl : r = (tot, no, false) := by rw [HPR.out, if_neg hp]
          clear HPR
          go_wp2_with fail
          exact four_end (Try.results79) rfl rfl rfl rfl (by rw [HAL.out]; simp) (HXB.out.trans (HB2.out.mono HXB.out.size)) rfl
theorem RefV.below {w w' : World} {v1 v2 : Value} {l : List (Nat × Nat)} (h : RefV w v1 v2 l) (hb : Below w.heap.size w w') : RefV w' v1 v2 l := by
  obtain ⟨a1, p1, a2, p2, e1, e2, hc⟩ := h
  exact ⟨a1, p1, a2, p2, e1, e2, fun W hW k hk => hc W (hb.trans (hW.mono hb.size)) k hk⟩
theorem four_blocks {w : World} {a b c d e f : Value} {arr : Array Value} {t u x : TypeId} :
    let W := (((w.alloc (.cells #[a, b] t)).alloc (.cells #[c, d] x)).alloc (.cells arr u)).alloc (.cells #[e, f] t)
    W.heap[w.heap.size]? = some (.cells #[a, b] t (0, 0)) ∧ W.heap[w.heap.size + 1]? = some (.cells #[c, d] x (0, 0)) ∧ W.heap[w.heap.size + 1 + 1]? = some (.cells arr u (0, 0)) ∧ W.heap[w.heap.size + 1 + 1 + 1]? = some (.cells #[e, f] t (0, 0)) ∧ Below w.heap.size w W := by
  refine ⟨?_, ?_, ?_, ?_, bel_alloc _ (bel_alloc _ (bel_alloc _ (bel_alloc _ (Below.refl _ _))))⟩
  · rw [Below.heap_alloc _ _ _ (by simp; omega), Below.heap_alloc _ _ _ (by simp; omega), Below.heap_alloc _ _ _ (by simp)]
    exact heap_alloc_new w _
  · rw [Below.heap_alloc _ _ _ (by simp), Below.heap_alloc _ _ _ (by simp)]
    have := heap_alloc_new (w.alloc (.cells #[a, b] t)) (.cells #[c, d] x)
    rw [World.size_alloc] at this
    exact this
  · rw [Below.heap_alloc _ _ _ (by simp)]
    have := heap_alloc_new ((w.alloc (.cells #[a, b] t)).alloc (.cells #[c, d] x)) (.cells arr u)
    rw [World.size_alloc, World.size_alloc] at this
    exact this
  · have := heap_alloc_new (((w.alloc (.cells #[a, b] t)).alloc (.cells #[c, d] x)).alloc (.cells arr u)) (.cells #[e, f] t)
    rw [World.size_alloc, World.size_alloc, World.size_alloc] at this
    exact this
/-- What the reference's Put hands back. -/
def GivesP (w : World) (v0 : Value) (e : Enc) (b : Bool) (x : Ending) (w' : World) : Prop := ∃ v, x = .returned (.tuple #[.agg #[v, .int .u64 (e.size : Int)], .bool b]) ∧ Row w' v (be (e.turns + 4) e.low) ∧ Below w.heap.size w w' ∧ Moved w v0 v
theorem partR_bound {N : Nat → Bool} {s : Nat} {l : List (Nat × Nat)} {b : Nat} (ht : Tab b l) : 1 ≤ (partR N s l).2.1 ∧ (partR N s l).1 + (partR N s l).2.1 ≤ allOf N l := by
  have hno : 1 ≤ noneOf N l := by unfold noneOf; omega
  unfold partR allOf
  cases h : partOf N s l 0 with
  | none => exact ⟨hno, Nat.le_refl _⟩
  | some r =>
    have := part_bound N s l 0 r.1 r.2 ht h
    constructor
    · exact this.2.1
    · show r.1 + r.2 ≤ _
      omega
set_option maxRecDepth 100000 in
set_option maxHeartbeats 4000000 in
theorem rput_any {w : World} {v v1 v2 : Value} {e : Enc} {l : List (Nat × Nat)} (h : Row w v (be (e.turns + 4) e.low)) (hf : Fine e) (hte : e.turns ≤ 999990) (hR : RefV w v1 v2 l) (ht : Tab 120 l) (hd : (l.map (·.1)).Nodup) (hl : l.length ≤ 541) (N : Nat → Bool) (s : Nat) (hs : s < 256) :
    Calls Try.prog 40 #[.agg #[v, .int .u64 (e.size : Int)], .agg #[v1, v2], .int .u8 (s : Int), .agg (setA N)] w (GivesP w v (putE e l N s).1 (putE e l N s).2) := by
  rw [putE_eq]
  obtain ⟨lo, z, t⟩ := e
  simp only at h hte
  obtain ⟨g, cap, hv⟩ := h.form (by rw [be_length]; omega)
  rw [be_length] at hv
  subst hv
  have hpb := partR_bound (N := N) (s := s) ht
  have hal := all_le N ht hl
  have HP := Lib.hid (fun (W : World) (hb : Below w.heap.size w W) => rpart_any (hR.below hb) ht hd (by omega) N s hs)
  have HE := Lib.hid (fun (W : World) (hb : Below w.heap.size w W) => Rc.part_any (e := ⟨lo, z, t⟩) (h.below hb (fun k hk => ownsRow_lt h k hk)) hf hte (partR N s l).1 (partR N s l).2.1 (allOf N l) hpb.1 hpb.2 hal)
  have hne := setA_ne N
  clear h hf hR ht hd hpb hal
  generalize partR N s l = r at *
  obtain ⟨ra, rb, rk⟩ := r
  simp only at HP HE ⊢
  generalize allOf N l = alo at *
  generalize (Enc.mk lo z t).part ra rb alo = e3 at *
  go_enter Try.func40, Try.ntmps40
  go_upto_region 1 with (fail)
  obtain ⟨b0, b1, b2, b3, hb⟩ := four_blocks (w := w) (a := .slice (some ⟨g, 0, none⟩) (t + 4) cap) (b := .int .u64 (z : Int)) (c := v1) (d := v2) (arr := setA N) (e := .slice none 0 0) (f := .int .u64 0) (t := 76) (u := 78) (x := 81)
  generalize (((w.alloc (.cells #[.slice (some ⟨g, 0, none⟩) (t + 4) cap, .int .u64 (z : Int)] 76)).alloc (.cells #[v1, v2] 81)).alloc (.cells (setA N) 78)).alloc (.cells #[.slice none 0 0, .int .u64 0] 76) = W at *
  have HZ0 : Hid (w.heap.size ≤ w.heap.size + 1 + 1 + 1) := Lib.hid (by omega)
  generalize w.heap.size + 1 + 1 + 1 = Z at *
  generalize w.heap.size + 1 + 1 = Y at *
  generalize w.heap.size + 1 = X at *
  obtain ⟨x0, x1, _, _, hXl⟩ := two b1
  obtain ⟨_, _, _, _, hEl⟩ := two b0
  have HB := Lib.hid hb
  have HB0 := Lib.hid b0
  have HB2 := Lib.hid b2
  have HB3 := Lib.hid b3
  clear b0 b1 b2 b3 hb
  go_wp2_with (refine wpList_load_row rfl 78 (.tmp 7) rfl Y (by rfl) 78 (setA N) (0, 0) _ HB2.out Try.underlying78 rfl (by rw [sizeA, setA_size]) ?_)
  refine (HP.out _ HB.out).mono ?_
  rintro x w1 ⟨rfl, hb1⟩
  have k0 := (hb1.block _ hEl).trans HB0.out
  have k3 := (hb1.block _ (lt_of_heap HB3.out)).trans HB3.out
  obtain ⟨e0, e1, _, _, _⟩ := two k0
  have HK3 := Lib.hid k3
  have HB1 := Lib.hid (bel_new hb1 HB.out)
  clear k0 k3 hb1 x0 x1
  go_wp2_with fail
  refine (HE.out _ HB1.out).mono ?_
  rintro x w3 ⟨v3, rfl, hrow3, hb3, hmv3⟩
  have k2 := (hb3.block _ (lt_of_heap HK3.out)).trans HK3.out
  obtain ⟨q0, q1, qf0, qf1, hql⟩ := two k2
  obtain ⟨g3, cap3, hv3⟩ := hrow3.form (by rw [be_length]; omega)
  rw [be_length] at hv3
  subst hv3
  have HK2 := Lib.hid k2
  have HR3 := Lib.hid hrow3
  have HBB := Lib.hid (bel_new hb3 HB1.out)
  have HMV := Lib.hid (moved_from HB1.out.size hmv3)
  clear k2 hrow3 hb3 hmv3 e0 e1
  go_wp2_with fail
  obtain ⟨c1, c2⟩ := laidZ HR3.out HK2.out (by decide) HBB.out HZ0.out (.slice (some ⟨g3, 0, none⟩) (e3.turns + 4) cap3) (.int .u64 (e3.size : Int))
  refine bodyPost_ret (v := .tuple #[.agg #[.slice (some ⟨g3, 0, none⟩) (e3.turns + 4) cap3, .int .u64 (e3.size : Int)], .bool rk]) ?_ rfl ⟨_, rfl, c1, c2, HMV.out⟩
  simp [results, Try.results40, go_sem, q0, q1]
end Go.Proofs.Yteacmcckhjabmaa.Fq
