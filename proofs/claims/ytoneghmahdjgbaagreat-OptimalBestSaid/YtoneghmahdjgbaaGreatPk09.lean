/-
  Package bst: contracts of left, Place, of none, New, matching.
  Package bst: the contract of uproot.
  Package bst: what is told to the closure of Next.
-/
import Derived.Test.YtoneghmahdjgbaaGreatPk08
import Derived.StillTailTactics
section
namespace Go.Proofs.YtoneghmahdjgbaaGreat.Bs
open Go.RowKit Go.Maps
open Mt
open Ch (bt bt_at bt_lt Dm ret_num infoI)
set_option maxHeartbeats 400000 in
theorem left_raw {w : World} {a : Nat} {s : ByteArray} {p : Nat} (h0 : w.cell? ⟨a, 0, none⟩ = some (.string s)) (h2 : w.cell? ⟨a, 2, none⟩ = some (.int .i64 (p : Int))) (hp : p ≤ s.size) (hs : s.size ≤ 1000000000000) :
    Calls Tryz.prog 61 #[.pointer (some ⟨a, 0, none⟩)] w fun x w' => x = .returned (.int .i64 ((s.size : Int) - p)) ∧ ∃ n, w' = w.drewN n := by
  go_enter Tryz.func61, Tryz.ntmps61
  go_wp2
  go_quiet (fail)
  go_wp2
  go_ret
  exact ⟨rfl, _, rfl⟩
set_option maxHeartbeats 2000000 in
theorem matching_raw {w : World} {a : Nat} {s : ByteArray} {p q m0 most : Nat} (h0 : w.cell? ⟨a, 0, none⟩ = some (.string s)) (h2 : w.cell? ⟨a, 2, none⟩ = some (.int .i64 (p : Int))) (hq : q < p) (hm : p + most ≤ s.size) (hs : s.size ≤ 1000000000000) (h01 : m0 ≤ most) :
    Calls Tryz.prog 88 #[.pointer (some ⟨a, 0, none⟩), .int .i64 (q : Int), .int .i64 (m0 : Int), .int .i64 (most : Int)] w fun x w' => x = .returned (.int .i64 (mat (bt s) p q m0 (most - m0) : Int)) ∧ ∃ n, w' = w.drewN n := by
  go_enter Tryz.func88, Tryz.ntmps88
  go_wp2
  go_loopw [2] (fun i wr => ∃ k n : Nat, k ≤ most ∧ mat (bt s) p q k (most - k) = mat (bt s) p q m0 (most - m0) ∧ i = .int .i64 k ∧ wr = w.drewN n) (fun i _ => most - (intOf i).toNat)
  case atStart => exact ⟨m0, 0, h01, rfl, rfl, rfl⟩
  case round =>
    obtain ⟨k, n, hk, hmat, rfl, rfl⟩ := hrel
    have HM := Lib.hid hmat
    clear hmat
    have g0 : (w.drewN n).cell? ⟨a, 0, none⟩ = some (.string s) := h0
    have g2 : (w.drewN n).cell? ⟨a, 2, none⟩ = some (.int .i64 (p : Int)) := h2
    by_cases hlt : k < most
    · have hpk : p + k < s.size := by omega
      have hqk : q + k < s.size := by omega
      have e1 : (0 : Int) ≤ (p : Int) + (k : Int) := by omega
      have e2 : (p : Int) + (k : Int) < (s.size : Int) := by omega
      have e3 : ((p : Int) + (k : Int)).toNat = p + k := by omega
      have e4 : IntKind.i64.wrap ((p : Int) + (k : Int)) = (p : Int) + (k : Int) := IntWalk.i64_in _ (by omega)
      have d1 : (0 : Int) ≤ (q : Int) + (k : Int) := by omega
      have d2 : (q : Int) + (k : Int) < (s.size : Int) := by omega
      have d3 : ((q : Int) + (k : Int)).toNat = q + k := by omega
      have d4 : IntKind.i64.wrap ((q : Int) + (k : Int)) = (q : Int) + (k : Int) := IntWalk.i64_in _ (by omega)
      have hlt' : decide (k < most) = true := by simpa using hlt
      by_cases he : bt s (p + k) = bt s (q + k)
      · have HE : Hid (mat (bt s) p q (k + 1) (most - (k + 1)) = mat (bt s) p q m0 (most - m0)) := Lib.hid (by
          rw [← HM.out, show most - k = (most - (k + 1)) + 1 from by omega, mat, if_pos he])
        have hbe : ((s[q + k].toNat : Int) == (s[p + k].toNat : Int)) = true := by rw [bt_at, bt_at, he]; simp
        clear he HM
        go_wp2
        go_quiet (fail)
        clear e4 d4
        go_wp2
        go_roundw
        case rel => exact ⟨k + 1, _, by omega, HE.out, by go_num, rfl⟩
        case measure => simp [intOf]; omega
      · have HE : Hid (mat (bt s) p q m0 (most - m0) = k) := Lib.hid (by
          rw [← HM.out, show most - k = (most - (k + 1)) + 1 from by omega, mat, if_neg he])
        have hbe : ((s[q + k].toNat : Int) == (s[p + k].toNat : Int)) = false := by rw [bt_at, bt_at, beq_eq_false_iff_ne]; omega
        clear he HM
        go_wp2
        go_quiet (fail)
        clear e4 d4
        go_wp2
        go_ret
        exact ⟨ret_num (by rw [HE.out]), _, by rw [World.drewN_drewN]⟩
    · have HE : Hid (mat (bt s) p q m0 (most - m0) = k) := Lib.hid (by
        rw [← HM.out, show most - k = 0 from by omega, mat])
      have hlt' : decide (k < most) = false := by simpa using hlt
      clear HM
      go_wp2
      go_quiet (fail)
      go_wp2
      go_ret
      exact ⟨ret_num (by rw [HE.out]), _, by rw [World.drewN_drewN]⟩
theorem infoN : (Tryz.prog.info? 178).map (fun i => (i.zero, i.size, i.bytes)) = some (some (.agg #[.int .i64 0, .int .i64 0]), 2, 16) := by kernel_rfl
theorem made_nodes (n : Nat) : (madeCells (Value.agg #[.int .i64 0, .int .i64 0]).cells (n * 2)).toList = (List.replicate (n * 2) (0 : Int)).map (Value.int .i64) := by
  apply List.ext_getElem
  · simp [madeCells]
  · intro i h1 h2
    have : i % 2 = 0 ∨ i % 2 = 1 := by omega
    simp [madeCells, Value.cells]
    rcases this with e | e <;> simp [e]
set_option maxHeartbeats 1000000 in
theorem new_any (s : ByteArray) (window : Int) (w : World) (O : Paint) (c : Nat) (hs : s.size ≤ 1000000000) :
    Calls Tryz.prog 37 #[.string s, .int .i64 window] w fun x w' => ∃ a O' B v xs D, x = .returned (.pointer (some ⟨a, 0, none⟩)) ∧ Step [] w O w' O' ∧ BinAt w' O' c a s window 0 0 B v xs D := by
  obtain ⟨i0, hi, hz0, hz1, hz2⟩ := info_parts infoN
  have hmm := run_makeMap (P := Tryz.prog) 123 w
  obtain ⟨w2, hmk, hrow, hgr⟩ := run_make_full (P := Tryz.prog) (w.alloc (.map #[] 0)) 0 124 178 i0 (.agg #[.int .i64 0, .int .i64 0]) 2 Tryz.underlying124 hi hz0 hz1 .i64 .i64 s.size (by rw [hz2]; omega) (by unfold maxLen; omega) (Nat.zero_le _)
  rw [made_nodes] at hrow
  have hown := (World.ownsMap_made w Tryz.prog 194 (plainElem (H := Unit) Tryz.prog 3)).kept hgr (by simp)
  have HR := Lib.hid hrow
  have HO := Lib.hid hown
  have HG := Lib.hid hgr
  have hsz : (w.alloc (.map #[] 0)).heap.size = w.heap.size + 1 := World.size_alloc _ _
  rw [hsz] at hmk HR
  have hz2 := HG.out.size
  rw [hsz] at hz2
  clear hrow hown hgr hsz
  go_enter Tryz.func37, Tryz.ntmps37
  go_wp2_with fail
  go_ret
  refine ⟨w2.heap.size, Step.paint O w c, w.heap.size, .slice (some ⟨w.heap.size + 1, 0, none⟩) s.size s.size, List.replicate (s.size * 2) 0, .map [], rfl, ?_, ?_⟩
  · exact ((((Step.refl [] w O).alloc _).grown HG.out (fun k hk => by cases hk)).alloc _).repaint c
  · have hp : ∀ k, w.heap.size ≤ k → Step.paint O w c k = c := fun k hk => Step.paint_new hk
    exact ⟨⟨heap_alloc_new _ _, hp _ (by omega)⟩, ⟨World.ownsRow.alloc HR.out _, fun k hk => hp k (by simp [Value.ownBlock] at hk; omega), by simp⟩, HO.out.alloc _, hp _ (Nat.le_refl _), fun _ => tells2_none s, Nat.zero_le _, by omega⟩
end Go.Proofs.YtoneghmahdjgbaaGreat.Bs
end
section
namespace Go.Proofs.YtoneghmahdjgbaaGreat.Bs
open Go.RowKit Go.Maps
open Mt
open Ch (bt bt_at bt_lt Dm ret_num wf64 size8)
theorem run_copy_two {P : Program} (w : World) (dT sT ty elem : TypeId) (b dCap : Nat) (t : ByteArray) (x0 x1 : UInt8) (r : List UInt8) (hL : t.data.toList = x0 :: x1 :: r) (T : TypeId) (z0 z1 : Value)
    (hu : P.underlying dT = some (.slice elem)) (hs : (P.info? elem).map (·.size) = some 1) (hb : w.heap[b]? = some (.cells #[z0, z1] T (0, 0))) :
    (Builtin.copy_ #[dT, sT] ty #[.slice (some ⟨b, 0, none⟩) 2 dCap, .string t]).run P w = .ok (goInt 2) ((w.setCell ⟨b, 0, none⟩ (.int .u8 (x0.toNat : Int))).setCell ⟨b, 1, none⟩ (.int .u8 (x1.toNat : Int))) := by
  have hsz : t.size = r.length + 2 := by
    have : t.data.toList.length = t.size := by simp
    rw [← this, hL]; simp
  have hmin : Nat.min t.size 2 = 2 := by rw [hsz]; exact Nat.min_eq_right (by omega)
  have hcell : ∀ j, j < 2 → (w.cell? ⟨b, 0 + 0 + j, none⟩).isSome = true := by
    intro j hj
    have : j = 0 ∨ j = 1 := by omega
    rcases this with rfl | rfl <;> simp [World.cell?, hb]
  have hfree : ∀ j, j < 2 → w.frozen? ⟨b, 0 + 0 + j, none⟩ = false := by
    intro j hj
    simp [World.frozen?, hb]
  have hst := run_storeCells_cells (P := P) b 0 [.int .u8 (x0.toNat : Int), .int .u8 (x1.toNat : Int)] 0 w hcell hfree (by
    intro v hv
    simp at hv
    rcases hv with rfl | rfl <;> rfl)
  cases hq : P.info? elem with
  | none => simp [hq] at hs
  | some i =>
    simp [hq] at hs
    simp [Builtin.copy_, run_underlying hu, Builtin.lenOf, Builtin.firstCells, sizeOf, typeInfo, hq, hmin, hL, hst, Result.andThen]
    rfl
/-- .. as a step of a region that draws. -/
theorem step_copy_two {P : Program} {ops : Array Oper} {o : Oper} {a : Act} {w : World} {K : Act → World → Prop} {Q : Exit → Act → World → Prop} {E : Prop}
    (hg : o.guard = none) (d x : Operand) (dT sT : TypeId) (hop : o.op = Op.call { callee := Callee.builtin Builtin.copy, args := #[d, x], argTypes := #[dT, sT] })
    (elem : TypeId) (hu : P.underlying dT = some (.slice elem)) (hs : (P.info? elem).map (·.size) = some 1) (b dCap : Nat) (hd : a.eval d = .slice (some ⟨b, 0, none⟩) 2 dCap) (t : ByteArray) (hx : a.eval x = .string t)
    (x0 x1 : UInt8) (r : List UInt8) (hL : t.data.toList = x0 :: x1 :: r) (T : TypeId) (z0 z1 : Value) (hb : w.heap[b]? = some (.cells #[z0, z1] T (0, 0)))
    (hK : K (a.put o.dst (goInt 2)) ((w.setCell ⟨b, 0, none⟩ (.int .u8 (x0.toNat : Int))).setCell ⟨b, 1, none⟩ (.int .u8 (x1.toNat : Int)))) :
    if Region.wanted o (yielded ops a.tmps) = true then Oper.wp P o a w K Q else E := by
  have hw : Region.wanted o (yielded ops a.tmps) = true := by simp [Region.wanted, hg]
  rw [if_pos hw]
  have hrun := run_copy_two (P := P) w dT sT o.type elem b dCap t x0 x1 r hL T z0 z1 hu hs hb
  unfold Oper.wp
  simp [execOp, hop, resolve, invoke, builtin, hd, hx, hrun, Result.andThen]
  exact hK
theorem two_bytes {s : ByteArray} {p : Nat} (hp : p + 2 ≤ s.size) : ∃ r, (s.extract p s.size).data.toList = s[p] :: s[p + 1] :: r := by
  refine ⟨s.data.toList.drop (p + 2), ?_⟩
  have e : (s.extract p s.size).data.toList = s.data.toList.drop p := by
    simp [ByteArray.data_extract]
    rw [List.take_of_length_le (by simp)]
  rw [e, List.drop_eq_getElem_cons (by simp; omega), List.drop_eq_getElem_cons (by simp; omega)]
  rfl
theorem two_laid {w W : World} {H : Nat} {z0 z1 x0 x1 : Value} {T : TypeId} (hb : Below H w W) (hz : W.heap[H]? = some (.cells #[z0, z1] T (0, 0))) :
    Below H w ((W.setCell ⟨H, 0, none⟩ x0).setCell ⟨H, 1, none⟩ x1).drew ∧ ((W.setCell ⟨H, 0, none⟩ x0).setCell ⟨H, 1, none⟩ x1).drew.heap[H]? = some (.cells #[x0, x1] T (0, 0)) := by
  have h1 := heap_setCell_same W H 0 _ _ x0 hz
  have h2 := heap_setCell_same _ H 1 _ _ x1 h1
  have hb' := (hb.setCell (p := ⟨H, 0, none⟩) (Nat.le_refl _) x0).setCell (p := ⟨H, 1, none⟩) (Nat.le_refl _) x1
  have h4 : ((W.setCell ⟨H, 0, none⟩ x0).setCell ⟨H, 1, none⟩ x1).heap[H]? = some (.cells #[x0, x1] T (0, 0)) := by simpa using h2
  exact ⟨⟨hb'.os, hb'.tape, hb'.output, hb'.size, hb'.block⟩, h4⟩
theorem two {w : World} {X : Nat} {a b : Value} {t : TypeId} (h : w.heap[X]? = some (.cells #[a, b] t (0, 0))) :
    (w.cell? ⟨X, 0, none⟩ = some a ∧ w.cell? ⟨X, 1, none⟩ = some b) ∧ (w.frozen? ⟨X, 0, none⟩ = false ∧ w.frozen? ⟨X, 1, none⟩ = false) := by
  refine ⟨⟨?_, ?_⟩, ?_, ?_⟩ <;> simp [World.cell?, World.frozen?, h]
/-- What uproot leaves. -/
def UpTo (w : World) (O : Paint) (c a : Nat) (s : ByteArray) (window : Int) (p B : Nat) (v : Value) (xs : List Int) (x : Ending) (w' : World) : Prop := x = .returned (.int .i64 (prev2 (bt s) p p)) ∧ ∃ D', Step [c] w O w' O ∧ BinAt w' O c a s window p (p + 1) B v xs D'
section
variable {w w' : World} {O O' : Paint} {c a : Nat} {s : ByteArray} {window : Int} {p r B : Nat} {v : Value} {xs : List Int} {D : Dm}
set_option maxRecDepth 100000 in
set_option maxHeartbeats 4000000 in
theorem uproot_any (h : BinAt w O c a s window p p B v xs D) (hp : p + 2 ≤ s.size) :
    Calls Tryz.prog 87 #[.pointer (some ⟨a, 0, none⟩)] w (UpTo w O c a s window p B v xs) := by
  have HF0 := Lib.hid h
  obtain ⟨h0, h1, h2, h3, h4⟩ := h.cells
  have hsm := h.small
  have HF := Lib.hid h
  clear h
  go_enter Tryz.func87, Tryz.ntmps87
  go_upto_region 2 with (fail)
  have HH := Lib.hid (heap_alloc_new w (.cells #[.int .u8 0, .int .u8 0] 194))
  have HF1 := Lib.hid (HF.out.below ((Below.refl _ w).alloc (Nat.le_refl _) (.cells #[.int .u8 0, .int .u8 0] 194)))
  have HB1 := Lib.hid ((Below.refl _ w).alloc (Nat.le_refl _) (.cells #[.int .u8 0, .int .u8 0] 194))
  clear h0 h1 h2 h3 h4 HF
  obtain ⟨h0, h1, h2, h3, h4⟩ := HF1.out.cells
  generalize w.alloc (.cells #[.int .u8 0, .int .u8 0] 194) = W1 at *
  generalize hHe : w.heap.size = H at *
  have HHE := Lib.hid hHe
  clear hHe
  obtain ⟨r, hL⟩ := two_bytes hp
  have HL := Lib.hid hL
  clear hL
  go_cut [16] (fun _ wc => Below H w wc ∧ wc.heap[H]? = some (.cells #[.int .u8 (bt s p : Int), .int .u8 (bt s (p + 1) : Int)] 194 (0, 0)))
  case first =>
    as_aux_lemma =>
    -- BEGIN one
    have e1 : (0 : Int) ≤ (p : Int) := by omega
    have e2 : (p : Int) ≤ (s.size : Int) := by omega
    have e3 : p ≤ s.size := by omega
    go_region_law ((refine step_copy_two rfl (.tmp 6) (.tmp 15) 104 9 rfl 5 Tryz.underlying104 size8 H 2 rfl (s.extract p s.size) rfl s[p] s[p + 1] r HL.out 194 _ _ (show W1.drew.heap[H]? = _ from HH.out) ?_))
    all_goals
      go_wp2_with fail
      go_meet
      have := two_laid (x0 := .int .u8 (s[p].toNat : Int)) (x1 := .int .u8 (s[p + 1].toNat : Int)) HB1.out HH.out
      rw [bt_at, bt_at] at this
      rw [bt_at, bt_at]
      exact this
    -- END one
  case rest =>
    obtain ⟨hb2, hh2⟩ := hcut
    have HF2 := Lib.hid (HF0.out.below (by rw [HHE.out]; exact hb2))
    have HS2 : Hid (Step [] w O wc O) := Lib.hid (Step.of_below_same (by rw [HHE.out]; exact hb2) O)
    have HH2 := Lib.hid hh2
    obtain ⟨⟨c0, c1⟩, _⟩ := two hh2
    clear h0 h1 h2 h3 h4 HF1 HB1 HH HL hb2 hh2 HF0
    obtain ⟨h0, h1, h2, h3, h4⟩ := HF2.out.cells
    obtain ⟨pv, hpv⟩ : ∃ pv, pv = prev2 (bt s) p p := ⟨_, rfl⟩
    have HPV := Lib.hid hpv
    have k1 : ∀ n, (Instr.lookup 123 (.map (some B)) (.agg #[.int .u8 (bt s p : Int), .int .u8 (bt s (p + 1) : Int)]) true).run Tryz.prog (wc.drewN n) = .ok (.tuple #[.int .i64 (if pv = -1 then 0 else pv), .bool (decide (pv ≠ -1))]) (wc.drewN n) := fun n => by rw [hpv]; exact (HF2.out.drewN n).look hp
    have k2 := k1 1
    clear hpv
    have KF3 := Lib.hid (fun n => HF2.out.drewN n)
    have KS3 := Lib.hid (fun n => HS2.out.drewN n)
    have KH3 : Hid (∀ n, (wc.drewN n).heap[H]? = _) := Lib.hid (fun n => HH2.out)
    by_cases hm : pv = -1
    · subst hm
      rw [if_pos rfl] at k1 k2
      have k0 : decide ((-1 : Int) ≠ -1) = false := by decide
      rw [k0] at k1 k2
      clear k0
      as_aux_lemma =>
      go_upto_region 3 with (fail)
      go_quiet (fail)
      clear k1 k2
      have HF3 := Lib.hid (KF3.out nq)
      have HS3 := Lib.hid (KS3.out nq)
      have HH3 := Lib.hid (KH3.out nq)
      generalize wc.drewN nq = W5 at *
      clear HF2 HS2 HH2 KF3 KS3 KH3 h0 h1 h2 h3 h4 c0 c1
      go_upto_region 6 with (fail)
      obtain ⟨⟨c0, c1⟩, _⟩ := two HH3.out
      obtain ⟨h0, h1, h2, h3, h4⟩ := HF3.out.cells
      have HOW := Lib.hid HF3.out.own
      go_still_tail 9, (by kernel_rfl)
      change wpList _ _ _ _ _ W5.drew
      go_wp2_with (at_mapUpdate; refine wpList_mapUpdate_own _ rfl _ _ _ 123 rfl 194 3 law2 Tryz.underlying123 _ B p D rfl HOW.out.drew (by unfold maxLen; omega) _ _ (key2 s p) rfl rfl (key_of2 s p) (.lit (.int .i64 (p : Int))) [] (plainElem_int Tryz.underlying3 (wf64 (by omega))) ?_; intro w6 hown6 hgrow6)
      have hmap := HF3.out.drew.mapped hp hown6 hgrow6
      have HM := Lib.hid hmap.1
      have HS6 := Lib.hid (((HS3.out.mono (ds := [c]) (by simp)).drew).trans hmap.2)
      clear hmap hown6 hgrow6 HOW HF3 HS3 HH3 h0 h1 h2 h3 h4 c0 c1
      go_wp2_with fail
      go_ret
      exact ⟨by rw [← HPV.out]; rfl, _, HS6.out, HM.out⟩
    · rw [if_neg hm] at k1 k2
      have k0 : decide (pv ≠ -1) = true := by simpa using hm
      rw [k0] at k1 k2
      clear k0 hm
      as_aux_lemma =>
      go_upto_region 3 with (fail)
      go_quiet (fail)
      clear k1 k2
      have HF3 := Lib.hid (KF3.out nq)
      have HS3 := Lib.hid (KS3.out nq)
      have HH3 := Lib.hid (KH3.out nq)
      generalize wc.drewN nq = W5 at *
      clear HF2 HS2 HH2 KF3 KS3 KH3 h0 h1 h2 h3 h4 c0 c1
      go_upto_region 6 with (fail)
      obtain ⟨⟨c0, c1⟩, _⟩ := two HH3.out
      obtain ⟨h0, h1, h2, h3, h4⟩ := HF3.out.cells
      have HOW := Lib.hid HF3.out.own
      go_still_tail 9, (by kernel_rfl)
      change wpList _ _ _ _ _ W5.drew
      go_wp2_with (at_mapUpdate; refine wpList_mapUpdate_own _ rfl _ _ _ 123 rfl 194 3 law2 Tryz.underlying123 _ B p D rfl HOW.out.drew (by unfold maxLen; omega) _ _ (key2 s p) rfl rfl (key_of2 s p) (.lit (.int .i64 (p : Int))) [] (plainElem_int Tryz.underlying3 (wf64 (by omega))) ?_; intro w6 hown6 hgrow6)
      have hmap := HF3.out.drew.mapped hp hown6 hgrow6
      have HM := Lib.hid hmap.1
      have HS6 := Lib.hid (((HS3.out.mono (ds := [c]) (by simp)).drew).trans hmap.2)
      clear hmap hown6 hgrow6 HOW HF3 HS3 HH3 h0 h1 h2 h3 h4 c0 c1
      go_wp2_with fail
      go_ret
      exact ⟨by rw [← HPV.out]; rfl, _, HS6.out, HM.out⟩
end
end Go.Proofs.YtoneghmahdjgbaaGreat.Bs
end
section
namespace Go.Proofs.YtoneghmahdjgbaaGreat.Bs
open Go.RowKit Go.Maps
open Mt
open Ch (bt bt_at bt_lt Dm ret_num Founds infoF fd_new fd_one flatF flatF_append)
/-- What the closure has: the longest, and the list; both are new since w0. -/
structure Met (w0 w : World) (X Y longest : Nat) (u : Value) (l : List (Nat × Nat)) : Prop where
  hX : w.heap[X]? = some (.cells #[.int .i64 (longest : Int)] 3 (0, 0))
  hY : w.heap[Y]? = some (.cells #[u] 84 (0, 0))
  nX : w0.heap.size ≤ X
  nY : w0.heap.size ≤ Y
  founds : Founds 93 w0 w u l
  len : l.length ≤ longest
theorem one_cell {w : World} {X : Nat} {a : Value} {t : TypeId} (h : w.heap[X]? = some (.cells #[a] t (0, 0))) : w.cell? ⟨X, 0, none⟩ = some a ∧ w.frozen? ⟨X, 0, none⟩ = false := by
  refine ⟨?_, ?_⟩ <;> simp [World.cell?, World.frozen?, h]
theorem Met.keep {w0 w w' : World} {X Y longest : Nat} {u : Value} {l : List (Nat × Nat)} (h : Met w0 w X Y longest u l) (hf : Frame (fun k => k < w0.heap.size) w w') : Met w0 w' X Y longest u l :=
  ⟨(hf.block X (lt_of_heap h.hX) (by have := h.nX; omega)).trans h.hX, (hf.block Y (lt_of_heap h.hY) (by have := h.nY; omega)).trans h.hY, h.nX, h.nY, ⟨ownsRow_frame h.founds.row hf (fun k hk ho => by have := h.founds.new k hk; omega), h.founds.new⟩, h.len⟩
theorem Met.drewN {w0 w : World} {X Y longest : Nat} {u : Value} {l : List (Nat × Nat)} (h : Met w0 w X Y longest u l) (n : Nat) : Met w0 (w.drewN n) X Y longest u l := h.keep ((Frame.refl _ w).drewN n)
theorem Met.app {w0 w w10 : World} {X Y longest n d : Nat} {u u' : Value} {l : List (Nat × Nat)} {o : Obj} (h : Met w0 w X Y longest u l) (hl : longest < n)
    (hown : w10.ownsRow 0 93 2 u' (l.length + 1) (flatF l ++ [.int .i64 (n : Int), .int .i64 (d : Int)])) (hg : (w.alloc o).grownBy w10 u.ownBlock) (hm : Moved (w.alloc o) u u') (hw : w0.heap.size ≤ w.heap.size) :
    (Met w0 ((w10.setCell ⟨Y, 0, none⟩ u').setCell ⟨X, 0, none⟩ (.int .i64 (n : Int))) X Y n u' (l ++ [(n, d)]) ∧ Below w0.heap.size w ((w10.setCell ⟨Y, 0, none⟩ u').setCell ⟨X, 0, none⟩ (.int .i64 (n : Int)))) ∧
    (w10.setCell ⟨Y, 0, none⟩ u').heap[X]? = some (.cells #[.int .i64 (longest : Int)] 3 (0, 0)) ∧ w10.heap[Y]? = some (.cells #[u] 84 (0, 0)) := by
  have hXY : X ≠ Y := by
    rintro rfl
    have := h.hX
    rw [h.hY] at this
    simp at this
  have hu : ∀ Z t a, w.heap[Z]? = some (.cells #[a] t (0, 0)) → t ≠ 93 → u.ownBlock ≠ some Z := by
    intro Z t a hz ht e
    rcases h.founds.row.2 with ⟨e1, _⟩ | ⟨g, cap, cur, rfl, _, hg, _⟩
    · rw [e1] at e; simp [Value.ownBlock] at e
    · simp [Value.ownBlock] at e
      subst e
      rw [hz] at hg
      simp at hg
      exact ht hg.2
  have uX := hu X _ _ h.hX (by decide)
  have uY := hu Y _ _ h.hY (by decide)
  have al : ∀ Z a t, w.heap[Z]? = some (.cells #[a] t (0, 0)) → u.ownBlock ≠ some Z → w10.heap[Z]? = some (.cells #[a] t (0, 0)) := fun Z a t hz hn =>
    (hg.block Z (by rw [World.size_alloc]; exact Nat.lt_succ_of_lt (lt_of_heap hz)) (Ne.symm hn)).trans ((Below.heap_alloc w o Z (lt_of_heap hz)).trans hz)
  have hX10 := al X _ _ h.hX uX
  have hY10 := al Y _ _ h.hY uY
  have hf10 : Frame (fun k => u.ownBlock = some k) w w10 := ((Frame.refl (fun k => u.ownBlock = some k) w).alloc o).grown hg (fun k hk => .inl hk)
  have hb10 : Below w0.heap.size w w10 := hf10.below hw (fun k hk ho => by have := h.founds.new k ho; omega)
  have hb := (hb10.setCell (p := ⟨Y, 0, none⟩) h.nY u').setCell (p := ⟨X, 0, none⟩) h.nX (.int .i64 (n : Int))
  have s1 := heap_setCell_same w10 Y 0 _ _ u' hY10
  have s2 : (w10.setCell ⟨Y, 0, none⟩ u').heap[X]? = some (.cells #[.int .i64 (longest : Int)] 3 (0, 0)) := by rw [Below.heap_setCell _ _ _ _ (by exact hXY)]; exact hX10
  have s3 := heap_setCell_same _ X 0 _ _ (.int .i64 (n : Int)) s2
  refine ⟨⟨⟨by simpa using s3, ?_, h.nX, h.nY, ⟨?_, ?_⟩, by have := h.len; simp; omega⟩, hb⟩, s2, hY10⟩
  · rw [Below.heap_setCell _ _ _ _ (by exact Ne.symm hXY)]
    simpa using s1
  · rw [List.length_append, flatF_append]
    have f2 : Frame (fun k => k = Y ∨ k = X) w10 ((w10.setCell ⟨Y, 0, none⟩ u').setCell ⟨X, 0, none⟩ (.int .i64 (n : Int))) := ((Frame.refl (fun k => k = Y ∨ k = X) w10).setCell (p := ⟨Y, 0, none⟩) (.inl (.inl rfl)) u').setCell (p := ⟨X, 0, none⟩) (.inl (.inr rfl)) _
    refine ownsRow_frame hown f2 (fun k hk ho => ?_)
    rcases hown.2 with ⟨e1, _⟩ | ⟨g, cap, cur, rfl, _, hg', _⟩
    · rw [e1] at hk; simp [Value.ownBlock] at hk
    · simp [Value.ownBlock] at hk
      subst hk
      rcases ho with rfl | rfl
      · rw [hY10] at hg'; simp at hg'
      · rw [hX10] at hg'; simp at hg'
  · intro k hk
    rcases hm with e | e
    · rw [e] at hk; exact h.founds.new k hk
    · have h1 := e k hk
      rw [World.size_alloc] at h1
      omega
/-- What the closure leaves. -/
def MetTo (w0 w : World) (X Y longest n d : Nat) (l : List (Nat × Nat)) (x : Ending) (w' : World) : Prop :=
  x = .returned (.tuple #[]) ∧ ∃ u', Met w0 w' X Y (if longest < n then n else longest) u' (if longest < n then l ++ [(n, d)] else l) ∧ Below w0.heap.size w w'
set_option maxRecDepth 100000 in
set_option maxHeartbeats 1000000 in
theorem met_any {w0 w : World} {X Y longest : Nat} {u : Value} {l : List (Nat × Nat)} (h : Met w0 w X Y longest u l) (n d : Nat) (hn : n ≤ 273) (hw : w0.heap.size ≤ w.heap.size) :
    Calls Tryz.prog 63 #[.int .i64 (n : Int), .int .i64 (d : Int), .pointer (some ⟨X, 0, none⟩), .pointer (some ⟨Y, 0, none⟩)] w (MetTo w0 w X Y longest n d l) := by
  obtain ⟨x0, xf⟩ := one_cell h.hX
  obtain ⟨y0, yf⟩ := one_cell h.hY
  have HM := Lib.hid h
  clear h
  by_cases hl : longest < n
  · obtain ⟨i0, hi, hz0, hz1, hz2⟩ := info_parts infoF
    have HI := Lib.hid hi
    have HZ0 := Lib.hid hz0
    have HZ1 := Lib.hid hz1
    have HZ2 := Lib.hid hz2
    have HROW := Lib.hid HM.out.founds.row
    have hll := HM.out.len
    have hl2 : l.length ≤ 273 := by omega
    clear hll
    have hn1 : l.length + 1 ≤ maxLen := by unfold maxLen; omega
    have hn2 : (l.length + 1) * 16 ≤ 140737488355328 := by omega
    clear hi hz0 hz1 hz2
    go_enter Tryz.func63, Tryz.ntmps63
    go_wp2_with (at_builtin; refine wpList_append_one _ rfl _ _ 84 rfl 93 i0 (.agg #[.int .i64 0, .int .i64 0]) 2 16 Tryz.underlying84 HI.out HZ0.out HZ1.out HZ2.out rfl (by decide) u l.length _ rfl (World.ownsRow.alloc HROW.out _) ⟨w.heap.size, 0, none⟩ 1 [.int .i64 (n : Int), .int .i64 (d : Int)] rfl rfl (fd_new _ _ _ _) (fd_one _ _) hn1 hn2 ?_; intro g9 cap9 w10 hown10 hgr10 hmv10; have HTT := Lib.hid (HM.out.app (n := n) (d := d) hl hown10 hgr10 hmv10 hw); clear hown10 hgr10 hmv10; obtain ⟨q0, qf⟩ := one_cell HTT.out.2.2; obtain ⟨qx, qxf⟩ := one_cell HTT.out.2.1)
    go_end0
    exact ⟨rfl, _, by rw [if_pos hl, if_pos hl]; exact HTT.out.1.1, HTT.out.1.2⟩
  · have hd : decide (longest < n) = false := by simpa using hl
    go_enter Tryz.func63, Tryz.ntmps63
    go_wp2
    go_end0
    exact ⟨rfl, u, by rw [if_neg hl, if_neg hl]; exact HM.out, ⟨rfl, rfl, rfl, Nat.le_refl _, fun _ _ => rfl⟩⟩
end Go.Proofs.YtoneghmahdjgbaaGreat.Bs
end
