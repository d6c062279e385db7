/-
  Package freq: what a table is in memory ('TabAt'), and contracts of New, all, place, Has, halve, Add, Signs; and of none.
-/
import Derived.Test.YteacmcckhjabmaaRcDecs
import Derived.Test.YteacmcckhjabmaaFreqMath
import Derived.Deep.RegionWith
import Derived.Deep.RegionHeld3
namespace Go.Proofs.Yteacmcckhjabmaa.Fq
open Go.RowKit
/-- The cells of entries. -/
def flat (l : List (Nat × Nat)) : List Value := l.flatMap fun x => [.int .u8 (x.1 : Int), .int .u8 (x.2 : Int)]
theorem flat_length : ∀ l, (flat l).length = l.length * 2
  | [] => rfl
  | x :: l => by have := flat_length l; simp only [flat, List.flatMap_cons, List.length_append, List.length_cons, List.length_nil] at this ⊢; omega
theorem flat_even : ∀ (l : List (Nat × Nat)) (i : Nat), i < l.length → (flat l)[i * 2]? = some (.int .u8 ((at' l i).1 : Int))
  | [], i, h => by simp at h
  | x :: l, 0, _ => rfl
  | x :: l, i + 1, h => by
    have := flat_even l i (by simpa using h)
    rw [show (i + 1) * 2 = i * 2 + 1 + 1 from by omega]
    exact this
theorem flat_odd : ∀ (l : List (Nat × Nat)) (i : Nat), i < l.length → (flat l)[i * 2 + 1]? = some (.int .u8 ((at' l i).2 : Int))
  | [], i, h => by simp at h
  | x :: l, 0, _ => rfl
  | x :: l, i + 1, h => by
    have := flat_odd l i (by simpa using h)
    rw [show (i + 1) * 2 + 1 = i * 2 + 1 + 1 + 1 from by omega]
    exact this
theorem flat_set : ∀ (l : List (Nat × Nat)) (i n : Nat), i < l.length → flat (l.set i ((at' l i).1, n)) = (flat l).set (i * 2 + 1) (.int .u8 (n : Int))
  | [], i, n, h => by simp at h
  | x :: l, 0, n, _ => rfl
  | x :: l, i + 1, n, h => by
    have := flat_set l i n (by simpa using h)
    rw [show (i + 1) * 2 + 1 = i * 2 + 1 + 1 + 1 from by omega]
    show _ :: _ :: flat (l.set i ((at' l i).1, n)) = _ :: _ :: (flat l).set (i * 2 + 1) _
    rw [this]
theorem flat_append (l k : List (Nat × Nat)) : flat (l ++ k) = flat l ++ flat k := by simp [flat]
/-- A slice that owns just these entries; its block, where it has one, belongs to c. -/
def Seens (w : World) (O : Paint) (c : Nat) (v : Value) (l : List (Nat × Nat)) : Prop := w.ownsRow 0 172 2 v l.length (flat l) ∧ ∀ k, v.ownBlock = some k → O k = c
/-- Block a is a table of these entries; it, and they, belong to c. -/
def TabAt (w : World) (O : Paint) (c a : Nat) (v : Value) (l : List (Nat × Nat)) : Prop := Blk w O c a (.cells #[v] 190 (0, 0)) ∧ Seens w O c v l
section
variable {cs : List Nat} {w w' : World} {O O' : Paint} {c a : Nat} {v : Value} {l : List (Nat × Nat)}
theorem Seens.lt (h : Seens w O c v l) {k : Nat} (hk : v.ownBlock = some k) : k < w.heap.size := ownsRow_lt h.1 k hk
theorem Seens.step (h : Seens w O c v l) (hs : Step cs w O w' O') (hc : c ∉ cs) : Seens w' O' c v l :=
  ⟨ownsRow_frame h.1 hs.frame (fun k hk ho => hc (by rw [h.2 k hk] at ho; exact ho)), fun k hk => (hs.ext k (h.lt hk)).trans (h.2 k hk)⟩
theorem TabAt.step (h : TabAt w O c a v l) (hs : Step cs w O w' O') (hc : c ∉ cs) : TabAt w' O' c a v l := ⟨h.1.step hs hc, h.2.step hs hc⟩
theorem Seens.form (h : Seens w O c v l) : (v = .slice none 0 0 ∧ l = []) ∨ ∃ g cap, v = .slice (some ⟨g, 0, none⟩) l.length cap ∧ l.length ≤ cap ∧ cap ≤ maxLen ∧ O g = c ∧ g < w.heap.size ∧ w.heap[g]? ≠ some (.cells #[v] 190 (0, 0)) := by
  rcases h.1.2 with ⟨h1, h2⟩ | ⟨g, cap, cur, rfl, _, hg, hnc, hcm, hcs, htake⟩
  · exact .inl ⟨h1, List.eq_nil_of_length_eq_zero h2⟩
  · refine .inr ⟨g, cap, rfl, hnc, hcm, h.2 g rfl, lt_of_heap hg, ?_⟩
    rw [hg]; simp
theorem Seens.cell {g n cap : Nat} (h : Seens w O c (.slice (some ⟨g, 0, none⟩) n cap) l) {j : Nat} {x : Value} (hx : (flat l)[j]? = some x) : w.cell? ⟨g, j, none⟩ = some x := by
  have hn : n = l.length := by
    rcases h.1.2 with ⟨e1, _⟩ | ⟨g', cap', cur, e1, _⟩
    · simp at e1
    · simp only [Value.slice.injEq] at e1; exact e1.2.1
  have hj : j < (flat l).length := (List.getElem?_eq_some_iff.1 hx).1
  rw [flat_length] at hj
  have h1 := h.1
  rw [hn] at h1
  rw [World.ownsRow.cellAt h1 j hj]
  exact hx
theorem Seens.free {g n cap : Nat} (h : Seens w O c (.slice (some ⟨g, 0, none⟩) n cap) l) (j : Nat) : w.frozen? ⟨g, j, none⟩ = false := by
  rcases h.1.2 with ⟨e1, _⟩ | ⟨g', cap', cur, e1, _, hg, _⟩
  · simp at e1
  · simp only [Value.slice.injEq, Option.some.injEq, Addr.mk.injEq, and_true] at e1
    rw [← e1.1] at hg
    simp [World.frozen?, hg]
theorem Seens.ne {g n cap X : Nat} {ds : Array Value} {t : TypeId} (h : Seens w O c (.slice (some ⟨g, 0, none⟩) n cap) l) (hc : w.heap[X]? = some (.cells ds t (0, 0))) (ht : t ≠ 172) : g ≠ X := by
  rcases h.1.2 with ⟨e1, _⟩ | ⟨g', cap', cur, e1, _, hg, _⟩
  · simp at e1
  · simp only [Value.slice.injEq, Option.some.injEq, Addr.mk.injEq, and_true] at e1
    rintro rfl
    rw [e1.1, hg] at hc
    simp only [Option.some.injEq, Obj.cells.injEq] at hc
    exact ht hc.2.1.symm
theorem Seens.setCell_other (h : Seens w O c v l) {p : Addr} (hp : v.ownBlock ≠ some p.block) (u : Value) : Seens (w.setCell p u) O c v l :=
  ⟨ownsRow_frame h.1 ((Frame.refl (fun k => k = p.block) w).setCell (.inl rfl) u) (fun k hk e1 => hp (by rw [hk, e1])), h.2⟩
/-- One count is written. -/
theorem Seens.count {g n cap : Nat} (h : Seens w O c (.slice (some ⟨g, 0, none⟩) n cap) l) (i m : Nat) (hi : i < l.length) : Seens (w.setCell ⟨g, i * 2 + 1, none⟩ (.int .u8 (m : Int))) O c (.slice (some ⟨g, 0, none⟩) n cap) (l.set i ((at' l i).1, m)) := by
  have hn : n = l.length := by
    rcases h.1.2 with ⟨e1, _⟩ | ⟨g', cap', cur, e1, _⟩
    · simp at e1
    · simp only [Value.slice.injEq] at e1; exact e1.2.1
  subst hn
  refine ⟨?_, h.2⟩
  rw [List.length_set, flat_set l i m hi]
  exact (World.ownsRow.stored h.1 (i * 2 + 1) (.int .u8 (m : Int))).1
theorem TabAt.count {g n cap : Nat} (h : TabAt w O c a (.slice (some ⟨g, 0, none⟩) n cap) l) (i m : Nat) (hi : i < l.length) : TabAt (w.setCell ⟨g, i * 2 + 1, none⟩ (.int .u8 (m : Int))) O c a (.slice (some ⟨g, 0, none⟩) n cap) (l.set i ((at' l i).1, m)) ∧ Step [c] w O (w.setCell ⟨g, i * 2 + 1, none⟩ (.int .u8 (m : Int))) O :=
  ⟨⟨h.1.setCell_other (p := ⟨g, i * 2 + 1, none⟩) (h.2.ne h.1.1 (by decide)) _, h.2.count i m hi⟩, (Step.refl [c] w O).setCell (p := ⟨g, i * 2 + 1, none⟩) (.inl (by simp [h.2.2 g rfl])) _⟩
end
theorem ret_bool {a b : Bool} (h : a = b) : Ending.returned (.bool a) = .returned (.bool b) := by rw [h]
theorem ret_num {k : IntKind} {a b : Int} (h : a = b) : Ending.returned (.int k a) = .returned (.int k b) := by rw [h]
theorem all_any {w : World} {O : Paint} {c a : Nat} {v : Value} {l : List (Nat × Nat)} (h : TabAt w O c a v l) :
    Calls Try.prog 104 #[.pointer (some ⟨a, 0, none⟩)] w fun x w' => x = .returned v ∧ w = w' := by
  have h0 := h.1.cell 0
  simp at h0
  clear h
  go_enter Try.func104, Try.ntmps104
  go_wp2
  go_ret
  exact ⟨rfl, rfl⟩
theorem nil_all (w : World) : Calls Try.prog 104 #[.pointer none] w fun x w' => x = .returned (.slice none 0 0) ∧ w = w' := by
  go_enter Try.func104, Try.ntmps104
  go_wp2
  go_ret
  exact ⟨rfl, rfl⟩
set_option maxHeartbeats 1000000 in
theorem place_any {w : World} {O : Paint} {c a : Nat} {v : Value} {l : List (Nat × Nat)} (h : TabAt w O c a v l) (ht : Tab 255 l) (s : Nat) (hs : s < 256) :
    Calls Try.prog 117 #[.pointer (some ⟨a, 0, none⟩), .int .u8 (s : Int)] w fun x w' => x = .returned (.int .i64 (placeI l s)) ∧ Below w.heap.size w w' := by
  have HA := Lib.hid (all_any h)
  have HS := Lib.hid h.2
  have HT := Lib.hid ht
  rcases h.2.form with ⟨rfl, rfl⟩ | ⟨g, cap, rfl, hcap, hml, _, hg, _⟩
  · clear h ht HS HT
    go_enter Try.func117, Try.ntmps117
    go_wp2_with fail
    refine HA.out.mono ?_
    rintro x w1 ⟨rfl, rfl⟩
    go_wp2
    go_loop [10] (fun i => i = .int .i64 0) (fun i => 1)
    case atStart => rfl
    case round =>
      subst hrel
      go_wp2
      go_ret
      exact ⟨rfl, Below.refl _ _⟩
  · clear h ht
    unfold maxLen at hml
    go_enter Try.func117, Try.ntmps117
    go_wp2_with fail
    refine HA.out.mono ?_
    rintro x w1 ⟨rfl, rfl⟩
    go_wp2
    go_loopw [5, 6, 10] (fun _ _ i wr => ∃ k : Nat, k ≤ l.length ∧ k ≤ find l s ∧ i = .int .i64 k ∧ Below w.heap.size w wr) (fun _ _ i _ => l.length - (intOf i).toNat)
    case atStart => exact ⟨0, by omega, by omega, rfl, Below.refl _ _⟩
    case round =>
      obtain ⟨k, hk, hkf, rfl, hb⟩ := hrel
      by_cases hlt : k < l.length
      · have c0 := (hb.cell (p := ⟨g, k * 2, none⟩) hg).trans (HS.out.cell (flat_even l k hlt))
        have c1 := (hb.cell (p := ⟨g, k * 2 + 1, none⟩) hg).trans (HS.out.cell (flat_odd l k hlt))
        have hta := tab_at HT.out hlt
        have HB := Lib.hid hb
        have HH := Lib.hid (find_hit l s k hlt hkf)
        have HN := Lib.hid (find_next l s k hlt hkf)
        have hz := hb.size
        clear hb
        generalize (at' l k).1 = x1 at *
        generalize (at' l k).2 = x2 at *
        have HBA := Lib.hid (fun o => HB.out.alloc hz o)
        by_cases hx : x1 = s
        · subst hx
          have HF := Lib.hid (HH.out rfl)
          clear HH HN
          go_wp2
          go_ret
          exact ⟨ret_num (placeI_hit HF.out hlt).symm, HBA.out _⟩
        · have hd : ((x1 : Int) == (s : Int)) = false := by rw [beq_eq_false_iff_ne]; omega
          have HF := Lib.hid (HN.out hx)
          clear HH HN
          go_wp2
          go_roundw
          case rel => exact ⟨k + 1, by omega, HF.out, by go_num, HBA.out _⟩
          case measure => simp [intOf]; omega
      · obtain rfl : k = l.length := by omega
        have HB := Lib.hid hb
        clear hb
        go_wp2
        go_ret
        exact ⟨ret_num (placeI_none (by omega)).symm, HB.out⟩
theorem nil_place (w : World) (s : Nat) : Calls Try.prog 117 #[.pointer none, .int .u8 (s : Int)] w fun x w' => x = .returned (.int .i64 (-1)) ∧ w = w' := by
  go_enter Try.func117, Try.ntmps117
  go_wp2_with fail
  refine (nil_all w).mono ?_
  rintro x w1 ⟨rfl, rfl⟩
  go_wp2
  go_loop [10] (fun i => i = .int .i64 0) (fun i => 1)
  case atStart => rfl
  case round =>
    subst hrel
    go_wp2
    go_ret
    exact ⟨rfl, rfl⟩
theorem has_any {w : World} {O : Paint} {c a : Nat} {v : Value} {l : List (Nat × Nat)} (h : TabAt w O c a v l) (ht : Tab 255 l) (s : Nat) (hs : s < 256) :
    Calls Try.prog 96 #[.pointer (some ⟨a, 0, none⟩), .int .u8 (s : Int)] w fun x w' => x = .returned (.bool (hasB l s)) ∧ Below w.heap.size w w' := by
  have HP := Lib.hid (place_any h ht s hs)
  have hv : hasB l s = decide (0 ≤ placeI l s) := by
    unfold hasB placeI
    split <;> simp_all
  have HV := Lib.hid hv
  clear h ht hv
  generalize placeI l s = p at *
  go_enter Try.func96, Try.ntmps96
  go_wp2_with fail
  refine HP.out.mono ?_
  rintro x w1 ⟨rfl, hb⟩
  have HB := Lib.hid hb
  clear hb
  go_wp2
  go_ret
  exact ⟨ret_bool HV.out.symm, HB.out⟩
theorem nil_has (w : World) (s : Nat) : Calls Try.prog 96 #[.pointer none, .int .u8 (s : Int)] w fun x w' => x = .returned (.bool false) ∧ w = w' := by
  go_enter Try.func96, Try.ntmps96
  go_wp2_with fail
  refine (nil_place w s).mono ?_
  rintro x w1 ⟨rfl, rfl⟩
  go_wp2
  go_ret
  exact ⟨rfl, rfl⟩
set_option maxHeartbeats 1000000 in
theorem halve_any {w : World} {O : Paint} {c a : Nat} {v : Value} {l : List (Nat × Nat)} (h : TabAt w O c a v l) (ht : Tab 254 l) :
    Calls Try.prog 120 #[.pointer (some ⟨a, 0, none⟩)] w fun x w' => x = .returned (.tuple #[]) ∧ Step [c] w O w' O ∧ TabAt w' O c a v (halve l) := by
  have H := Lib.hid h
  have HT := Lib.hid ht
  have h0 := h.1.cell 0
  simp at h0
  rcases h.2.form with ⟨rfl, rfl⟩ | ⟨g, cap, rfl, hcap, hml, _, hg, _⟩
  · clear h ht HT
    go_enter Try.func120, Try.ntmps120
    go_wp2
    go_loop [9] (fun i => i = .int .i64 0) (fun i => 1)
    case atStart => rfl
    case round =>
      subst hrel
      go_wp2
      first | go_end0 | (simp only [Exit.inBlock, Exit.then]; refine bodyPost_ret (results_none rfl _ _ _) rfl ?_) | refine bodyPost_ret (results_none rfl _ _ _) rfl ?_
      exact ⟨rfl, Step.refl _ _ _, H.out⟩
  · clear h ht
    unfold maxLen at hml
    go_enter Try.func120, Try.ntmps120
    go_wp2
    go_loopw [2, 3, 9] (fun _ _ i wr => ∃ k : Nat, k ≤ l.length ∧ i = .int .i64 k ∧ Step [c] w O wr O ∧ TabAt wr O c a (.slice (some ⟨g, 0, none⟩) l.length cap) (halved l k)) (fun _ _ i _ => l.length - (intOf i).toNat)
    case atStart => exact ⟨0, by omega, rfl, Step.refl _ _ _, by rw [halved_zero]; exact H.out⟩
    case round =>
      obtain ⟨k, hk, rfl, hst, hT⟩ := hrel
      by_cases hlt : k < l.length
      · have hlh : k < (halved l k).length := by rw [halved_length l k hk]; exact hlt
        have c0 := hT.2.cell (flat_even (halved l k) k hlh)
        have c1 := hT.2.cell (flat_odd (halved l k) k hlh)
        have hta := tab_at HT.out hlt
        rw [halved_at l k hlt] at c0 c1
        have HSU := Lib.hid (halved_step l k hlt)
        generalize (at' l k).1 = x1 at *
        generalize (at' l k).2 = x2 at *
        go_upto_region 3 with (fail)
        have hT1 : TabAt (wr.alloc (.cells #[.int .u8 (x1 : Int), .int .u8 (x2 : Int)] 172)) O c a (.slice (some ⟨g, 0, none⟩) l.length cap) (halved l k) := hT.step (Step.refl [] wr O |>.alloc _) (by simp)
        have hst1 : Step [c] w O (wr.alloc (.cells #[.int .u8 (x1 : Int), .int .u8 (x2 : Int)] 172)) O := hst.alloc _
        have b1 : (wr.alloc (.cells #[.int .u8 (x1 : Int), .int .u8 (x2 : Int)] 172)).cell? ⟨wr.heap.size, 1, none⟩ = some (.int .u8 (x2 : Int)) := (Blk.new wr O 0 _).cell 1
        generalize wr.alloc (.cells #[.int .u8 (x1 : Int), .int .u8 (x2 : Int)] 172) = W1 at *
        generalize wr.heap.size = X at *
        have a0 : W1.cell? ⟨a, 0, none⟩ = some (.slice (some ⟨g, 0, none⟩) l.length cap) := hT1.1.cell 0
        have f1 := hT1.2.free (k * 2 + 1)
        have d1 := hT1.2.cell (flat_odd (halved l k) k hlh)
        have HT1 := Lib.hid hT1
        have HST1 := Lib.hid hst1
        have HLH := Lib.hid hlh
        clear hT hT1 hst hst1 c0 c1 h0 hlh
        have e1 : IntKind.u8.wrap ((x2 : Int) + 1) = (x2 : Int) + 1 := IntWalk.u8_in _ (by omega)
        have e2 : IntKind.u8.wrap (((x2 : Int) + 1).tdiv 2) = ((x2 : Int) + 1) / 2 := by rw [Int.tdiv_eq_ediv_of_nonneg (by omega)]; exact IntWalk.u8_in _ (by omega)
        go_region
        all_goals
          obtain ⟨k1, k2⟩ := HT1.out.count k ((x2 + 1) / 2) HLH.out
          have HK1 := Lib.hid k1
          have HK2 := Lib.hid (HST1.out.trans k2)
          clear k1 k2 e1 e2
          have HE := Lib.hid (show ((x2 : Int) + 1) / 2 = (((x2 + 1) / 2 : Nat) : Int) by omega)
          go_wp2
          go_roundw
          case rel =>
            rw [HE.out]
            exact ⟨k + 1, by omega, by go_num, HK2.out.drew, by rw [← HSU.out]; exact HK1.out.step (Step.refl [] _ O).drew (by simp)⟩
          case measure => simp [intOf]; omega
      · obtain rfl : k = l.length := by omega
        rw [halved_all] at hT
        have HT1 := Lib.hid hT
        have HST := Lib.hid hst
        clear hT hst
        go_wp2
        first | go_end0 | (simp only [Exit.inBlock, Exit.then]; refine bodyPost_ret (results_none rfl _ _ _) rfl ?_) | refine bodyPost_ret (results_none rfl _ _ _) rfl ?_
        exact ⟨rfl, HST.out, HT1.out⟩
theorem infoSeen : (Try.prog.info? 172).map (fun i => (i.zero, i.size, i.bytes)) = some (some (.agg #[.int .u8 0, .int .u8 0]), 2, 2) := by kernel_rfl
theorem two_new (w : World) (x y : Value) (t : TypeId) : ∀ j u, [x, y][j]? = some u → (w.alloc (.cells #[x, y] t)).cell? ((⟨w.heap.size, 0, none⟩ : Addr).add j) = some u := by
  intro j u hu
  have e : (⟨w.heap.size, 0, none⟩ : Addr).add j = ⟨w.heap.size, j, none⟩ := by unfold Addr.add; split <;> simp_all
  rw [e]
  have hc : (w.alloc (.cells #[x, y] t)).cell? ⟨w.heap.size, j, none⟩ = (#[x, y] : Array Value)[j]? := by
    unfold World.cell?
    rw [heap_alloc_new w (.cells #[x, y] t)]
    rfl
  rw [hc]
  simpa using hu
theorem two_one (x y : Nat) : ∀ u ∈ [Value.int .u8 (x : Int), Value.int .u8 (y : Int)], u.oneCell' = true := by intro u hu; simp at hu; rcases hu with rfl | rfl <;> rfl
/-- What was appended to a table's entries. -/
theorem TabAt.appended {w w2 : World} {O : Paint} {c a : Nat} {v v' : Value} {l k : List (Nat × Nat)} {o : Obj} (h : TabAt w O c a v l) (ho : w2.ownsRow 0 172 2 v' (l ++ k).length (flat (l ++ k))) (hg : (w.alloc o).grownBy w2 v.ownBlock) (hm : Moved (w.alloc o) v v') :
    TabAt (w2.setCell ⟨a, 0, none⟩ v') (Step.paint O w c) c a v' (l ++ k) ∧ Step [c] w O (w2.setCell ⟨a, 0, none⟩ v') (Step.paint O w c) ∧ w2.cell? ⟨a, 0, none⟩ = some v ∧ w2.frozen? ⟨a, 0, none⟩ = false := by
  have hlt := h.1.lt
  have hne : v.ownBlock ≠ some a := by
    intro e
    rcases h.2.form with ⟨rfl, _⟩ | ⟨g, cap, rfl, _⟩
    · simp [Value.ownBlock] at e
    · simp [Value.ownBlock] at e
      exact h.2.ne h.1.1 (by decide) e
  have hb := hg.block a (by rw [World.size_alloc]; omega) (fun e => hne e.symm)
  rw [Below.heap_alloc w o a hlt, h.1.1] at hb
  have s1 : Step [c] w O w2 (Step.paint O w c) := ((((Step.refl [c] w O).alloc o).grown hg (fun k hk => by
    left; simp; exact h.2.2 k hk))).repaint c
  have hp : ∀ k, v'.ownBlock = some k → Step.paint O w c k = c := by
    intro k hk
    rcases hm with e | e
    · rw [e] at hk
      rw [Step.paint_old (h.2.lt hk)]; exact h.2.2 k hk
    · have := e k hk
      rw [World.size_alloc] at this
      exact Step.paint_new (by omega)
  have hne2 : v'.ownBlock ≠ some a := by
    rcases hm with e | e
    · rw [e]; exact hne
    · intro e2
      have := e a e2
      rw [World.size_alloc] at this; omega
  have b2 : Blk w2 (Step.paint O w c) c a (.cells #[v] 190 (0, 0)) := ⟨hb, by rw [Step.paint_old hlt]; exact h.1.2⟩
  refine ⟨⟨?_, ?_⟩, ?_, ?_, ?_⟩
  · simpa using b2.setCell 0 v'
  · exact Seens.setCell_other (p := ⟨a, 0, none⟩) ⟨ho, hp⟩ hne2 _
  · exact s1.setCell (p := ⟨a, 0, none⟩) (.inl (by simp [h.1.2])) _
  · simpa using b2.cell 0
  · exact b2.free 0
/-- What adding a sign leaves. -/
def Added (w : World) (O : Paint) (c a : Nat) (l' : List (Nat × Nat)) (w' : World) : Prop := ∃ O' v', Step [c] w O w' O' ∧ TabAt w' O' c a v' l'
set_option maxHeartbeats 1000000 in
theorem add_any {w : World} {O : Paint} {c a : Nat} {v : Value} {l : List (Nat × Nat)} (h : TabAt w O c a v l) (ht : Tab 120 l) (hl : l.length ≤ 1000000) (s : Nat) (hs : s < 256) :
    Calls Try.prog 101 #[.pointer (some ⟨a, 0, none⟩), .int .u8 (s : Int)] w fun x w' => x = .returned (.tuple #[]) ∧ Added w O c a (addT l s) w' := by
  have HP := Lib.hid (place_any h (fun x hx => by have := ht x hx; omega) s hs)
  have H := Lib.hid h
  have HT := Lib.hid ht
  by_cases hf : find l s < l.length
  · have hpl := placeI_hit rfl hf
    have HAD := Lib.hid (show addT l s = if (at' l (find l s)).2 + 1 > 120 then halve (more l (find l s)) else more l (find l s) by unfold addT; rw [if_pos hf])
    rw [hpl] at HP
    clear hpl
    generalize find l s = i at *
    rcases h.2.form with ⟨rfl, rfl⟩ | ⟨g, cap, rfl, hcap, hml, _, hg, _⟩
    · simp at hf
    · have hta := tab_at ht hf
      have hi0 : decide ((i : Int) < 0) = false := by simp
      unfold maxLen at hml
      clear h ht
      go_enter Try.func101, Try.ntmps101
      go_wp2_with fail
      refine HP.out.mono ?_
      rintro x w1 ⟨rfl, hb⟩
      have h1 := H.out.step (Step.of_below_same hb O) (cs := []) (by simp)
      have a0 : w1.cell? ⟨a, 0, none⟩ = some (.slice (some ⟨g, 0, none⟩) l.length cap) := h1.1.cell 0
      have c1 := h1.2.cell (flat_odd l i hf)
      have f1 := h1.2.free (i * 2 + 1)
      have hga : g ≠ a := h1.2.ne h1.1.1 (by decide)
      have H1 := Lib.hid h1
      have HS1 := Lib.hid (show Step [c] w O w1 O from (Step.of_below_same hb O).nil)
      have hgl : g < w1.heap.size := Nat.lt_of_lt_of_le hg hb.size
      clear h1 hb
      obtain ⟨k1, k2⟩ := H1.out.count i ((at' l i).2 + 1) hf
      have K1 := Lib.hid (show TabAt _ O c a (.slice (some ⟨g, 0, none⟩) l.length cap) (more l i) from k1)
      have K2 := Lib.hid (HS1.out.trans k2)
      have HML := Lib.hid (tab_more121 HT.out hf)
      clear k1 k2
      have HE := Lib.hid (show ((at' l i).2 : Int) + 1 = (((at' l i).2 + 1 : Nat) : Int) by omega)
      generalize (at' l i).2 = x2 at *
      by_cases h120 : x2 + 1 > 120
      · have HA2 := Lib.hid (show addT l s = halve (more l i) by rw [HAD.out, if_pos h120])
        have hd : decide (120 < (x2 : Int) + 1) = true := by rw [decide_eq_true_iff]; omega
        clear HAD h120
        go_wp2_with fail
        rw [HE.out]
        refine (halve_any K1.out (fun x hx => by have := HML.out x hx; omega)).mono ?_
        rintro x w2 ⟨rfl, hs2, ht2⟩
        have HS2 := Lib.hid (K2.out.trans hs2)
        have HT2 := Lib.hid ht2
        clear hs2 ht2
        go_wp2_with fail
        first | go_end0 | (simp only [Exit.inBlock, Exit.then]; refine bodyPost_ret (results_none rfl _ _ _) rfl ?_) | refine bodyPost_ret (results_none rfl _ _ _) rfl ?_
        exact ⟨rfl, _, _, HS2.out, by rw [HA2.out]; exact HT2.out⟩
      · have HA2 := Lib.hid (show addT l s = more l i by rw [HAD.out, if_neg h120])
        have hd : decide (120 < (x2 : Int) + 1) = false := by rw [decide_eq_false_iff_not]; omega
        clear HAD h120
        go_wp2_with fail
        first | go_end0 | (simp only [Exit.inBlock, Exit.then]; refine bodyPost_ret (results_none rfl _ _ _) rfl ?_) | refine bodyPost_ret (results_none rfl _ _ _) rfl ?_
        rw [HE.out]
        exact ⟨rfl, _, _, K2.out, by rw [HA2.out]; exact K1.out⟩
  · have HAD := Lib.hid (show addT l s = l ++ [(s, 1)] by unfold addT; rw [if_neg hf])
    rw [placeI_none hf] at HP
    obtain ⟨i0, hi, hz0, hz1, hz2⟩ := info_parts infoSeen
    have hb1 : l.length + 1 ≤ maxLen := by unfold maxLen; omega
    have hb2 : (l.length + 1) * 2 ≤ 140737488355328 := by omega
    clear h ht hf
    go_enter Try.func101, Try.ntmps101
    go_wp2_with fail
    refine HP.out.mono ?_
    rintro x w1 ⟨rfl, hb⟩
    have h1 := H.out.step (Step.of_below_same hb O) (cs := []) (by simp)
    have a0 : w1.cell? ⟨a, 0, none⟩ = some v := h1.1.cell 0
    have H1 := Lib.hid h1
    have hal : a < w1.heap.size := h1.1.lt
    have HS1 := Lib.hid (show Step [c] w O w1 O from (Step.of_below_same hb O).nil)
    clear h1 hb
    go_wp2_with (at_builtin; refine wpList_append_one _ rfl _ _ 169 rfl 172 i0 (.agg #[.int .u8 0, .int .u8 0]) 2 2 Try.underlying169 hi hz0 hz1 hz2 rfl (by decide) v _ _ rfl (H1.out.2.1.alloc _) ⟨w1.heap.size, 0, none⟩ 1 [.int .u8 (s : Int), .int .u8 1] rfl rfl (two_new _ _ _ _) (two_one s 1) hb1 hb2 ?_; intro g cap w2 hown2 hgr2 hmv2; obtain ⟨t1, t2, t3, t4⟩ := H1.out.appended (k := [(s, 1)]) (by rw [List.length_append, flat_append]; exact hown2) hgr2 hmv2; have T1 := Lib.hid t1; have T2 := Lib.hid (HS1.out.trans t2); clear t1 t2 hown2 hgr2 hmv2)
    first | go_end0 | (simp only [Exit.inBlock, Exit.then]; refine bodyPost_ret (results_none rfl _ _ _) rfl ?_) | refine bodyPost_ret (results_none rfl _ _ _) rfl ?_
    exact ⟨rfl, _, _, T2.out, by rw [HAD.out]; exact T1.out⟩
theorem nil_add (w : World) (s : Nat) : Calls Try.prog 101 #[.pointer none, .int .u8 (s : Int)] w fun x w' => x = .returned (.tuple #[]) ∧ w = w' := by
  go_enter Try.func101, Try.ntmps101
  go_wp2
  first | go_end0 | (simp only [Exit.inBlock, Exit.then]; refine bodyPost_ret (results_none rfl _ _ _) rfl ?_) | refine bodyPost_ret (results_none rfl _ _ _) rfl ?_
  exact ⟨rfl, rfl⟩
theorem new_tab (w : World) (O : Paint) (c : Nat) : Calls Try.prog 99 #[] w fun x w' => ∃ a, x = .returned (.pointer (some ⟨a, 0, none⟩)) ∧ ∃ O', Step [] w O w' O' ∧ TabAt w' O' c a (.slice none 0 0) [] := by
  go_enter Try.func99, Try.ntmps99
  go_wp2
  go_ret
  exact ⟨_, rfl, Step.paint O w c, Step.alloc_paint w O c _, Blk.new w O c _, World.ownsRow_nil _ _ _ _, fun k hk => by simp [Value.ownBlock] at hk⟩
end Go.Proofs.Yteacmcckhjabmaa.Fq
