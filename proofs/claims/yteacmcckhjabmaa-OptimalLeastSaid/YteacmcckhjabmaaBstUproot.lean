/-
  Package bst: the contract of uproot.
-/
import Derived.Test.YteacmcckhjabmaaBstNew
import Derived.StillTailTactics
namespace Go.Proofs.Yteacmcckhjabmaa.Bs
open Go.RowKit Go.Maps
open Mt
open Ch (bt bt_at bt_lt Dm ret_num wf64 size8)
theorem run_copy_two {P : Program} (w : World) (dT sT ty elem : TypeId) (b dCap : Nat) (t : ByteArray) (x0 x1 : UInt8) (r : List UInt8) (hL : t.data.toList = x0 :: x1 :: r) (T : TypeId) (z0 z1 : Value)
    (hu : P.underlying dT = some (.slice elem)) (hs : (P.info? elem).map (·.size) = some 1) (hb : w.heap[b]? = some (.cells #[z0, z1] T (0, 0))) :
    (Builtin.copy_ #[dT, sT] ty #[.slice (some ⟨b, 0, none⟩) 2 dCap, .string t]).run P w = .ok (goInt 2) ((w.setCell ⟨b, 0, none⟩ (.int .u8 (x0.toNat : Int))).setCell ⟨b, 1, none⟩ (.int .u8 (x1.toNat : Int))) := by
  have hsz : t.size = r.length + 2 := by
    have : t.data.toList.length = t.size := by simp
    rw [← this, hL]; simp
  have hmin : Nat.min t.size 2 = 2 := by rw [hsz]; exact Nat.min_eq_right (by omega)
  have hcell : ∀ j, j < 2 → (w.cell? ⟨b, 0 + 0 + j, none⟩).isSome = true := by
    intro j hj
    have : j = 0 ∨ j = 1 := by omega
    rcases this with rfl | rfl <;> simp [World.cell?, hb]
  have hfree : ∀ j, j < 2 → w.frozen? ⟨b, 0 + 0 + j, none⟩ = false := by
    intro j hj
    simp [World.frozen?, hb]
  have hst := run_storeCells_cells (P := P) b 0 [.int .u8 (x0.toNat : Int), .int .u8 (x1.toNat : Int)] 0 w hcell hfree (by
    intro v hv
    simp at hv
    rcases hv with rfl | rfl <;> rfl)
  cases hq : P.info? elem with
  | none => simp [hq] at hs
  | some i =>
    simp [hq] at hs
    simp [Builtin.copy_, run_underlying hu, Builtin.lenOf, Builtin.firstCells, sizeOf, typeInfo, hq, hmin, hL, hst, Result.andThen]
    rfl
/-- .. as a step of a region that draws. -/
theorem step_copy_two {P : Program} {ops : Array Oper} {o : Oper} {a : Act} {w : World} {K : Act → World → Prop} {Q : Exit → Act → World → Prop} {E : Prop}
    (hg : o.guard = none) (d x : Operand) (dT sT : TypeId) (hop : o.op = Op.call { callee := Callee.builtin Builtin.copy, args := #[d, x], argTypes := #[dT, sT] })
    (elem : TypeId) (hu : P.underlying dT = some (.slice elem)) (hs : (P.info? elem).map (·.size) = some 1) (b dCap : Nat) (hd : a.eval d = .slice (some ⟨b, 0, none⟩) 2 dCap) (t : ByteArray) (hx : a.eval x = .string t)
    (x0 x1 : UInt8) (r : List UInt8) (hL : t.data.toList = x0 :: x1 :: r) (T : TypeId) (z0 z1 : Value) (hb : w.heap[b]? = some (.cells #[z0, z1] T (0, 0)))
    (hK : K (a.put o.dst (goInt 2)) ((w.setCell ⟨b, 0, none⟩ (.int .u8 (x0.toNat : Int))).setCell ⟨b, 1, none⟩ (.int .u8 (x1.toNat : Int)))) :
    if Region.wanted o (yielded ops a.tmps) = true then Oper.wp P o a w K Q else E := by
  have hw : Region.wanted o (yielded ops a.tmps) = true := by simp [Region.wanted, hg]
  rw [if_pos hw]
  have hrun := run_copy_two (P := P) w dT sT o.type elem b dCap t x0 x1 r hL T z0 z1 hu hs hb
  unfold Oper.wp
  simp [execOp, hop, resolve, invoke, builtin, hd, hx, hrun, Result.andThen]
  exact hK
theorem two_bytes {s : ByteArray} {p : Nat} (hp : p + 2 ≤ s.size) : ∃ r, (s.extract p s.size).data.toList = s[p] :: s[p + 1] :: r := by
  refine ⟨s.data.toList.drop (p + 2), ?_⟩
  have e : (s.extract p s.size).data.toList = s.data.toList.drop p := by
    simp [ByteArray.data_extract]
    rw [List.take_of_length_le (by simp)]
  rw [e, List.drop_eq_getElem_cons (by simp; omega), List.drop_eq_getElem_cons (by simp; omega)]
  rfl
theorem two_laid {w W : World} {H : Nat} {z0 z1 x0 x1 : Value} {T : TypeId} (hb : Below H w W) (hz : W.heap[H]? = some (.cells #[z0, z1] T (0, 0))) :
    Below H w ((W.setCell ⟨H, 0, none⟩ x0).setCell ⟨H, 1, none⟩ x1).drew ∧ ((W.setCell ⟨H, 0, none⟩ x0).setCell ⟨H, 1, none⟩ x1).drew.heap[H]? = some (.cells #[x0, x1] T (0, 0)) := by
  have h1 := heap_setCell_same W H 0 _ _ x0 hz
  have h2 := heap_setCell_same _ H 1 _ _ x1 h1
  have hb' := (hb.setCell (p := ⟨H, 0, none⟩) (Nat.le_refl _) x0).setCell (p := ⟨H, 1, none⟩) (Nat.le_refl _) x1
  have h4 : ((W.setCell ⟨H, 0, none⟩ x0).setCell ⟨H, 1, none⟩ x1).heap[H]? = some (.cells #[x0, x1] T (0, 0)) := by simpa using h2
  exact ⟨⟨hb'.os, hb'.tape, hb'.output, hb'.size, hb'.block⟩, h4⟩
theorem two {w : World} {X : Nat} {a b : Value} {t : TypeId} (h : w.heap[X]? = some (.cells #[a, b] t (0, 0))) :
    (w.cell? ⟨X, 0, none⟩ = some a ∧ w.cell? ⟨X, 1, none⟩ = some b) ∧ (w.frozen? ⟨X, 0, none⟩ = false ∧ w.frozen? ⟨X, 1, none⟩ = false) := by
  refine ⟨⟨?_, ?_⟩, ?_, ?_⟩ <;> simp [World.cell?, World.frozen?, h]
/-- What uproot leaves. -/
def UpTo (w : World) (O : Paint) (c a : Nat) (s : ByteArray) (window : Int) (p B : Nat) (v : Value) (xs : List Int) (x : Ending) (w' : World) : Prop := x = .returned (.int .i64 (prev2 (bt s) p p)) ∧ ∃ D', Step [c] w O w' O ∧ BinAt w' O c a s window p (p + 1) B v xs D'
section
variable {w w' : World} {O O' : Paint} {c a : Nat} {s : ByteArray} {window : Int} {p r B : Nat} {v : Value} {xs : List Int} {D : Dm}
set_option maxRecDepth 100000 in
set_option maxHeartbeats 4000000 in
theorem uproot_any (h : BinAt w O c a s window p p B v xs D) (hp : p + 2 ≤ s.size) :
    Calls Try.prog 113 #[.pointer (some ⟨a, 0, none⟩)] w (UpTo w O c a s window p B v xs) := by
  have HF0 := Lib.hid h
  obtain ⟨h0, h1, h2, h3, h4⟩ := h.cells
  have hsm := h.small
  have HF := Lib.hid h
  clear h
  go_enter Try.func113, Try.ntmps113
  go_upto_region 2 with (fail)
  have HH := Lib.hid (heap_alloc_new w (.cells #[.int .u8 0, .int .u8 0] 194))
  have HF1 := Lib.hid (HF.out.below ((Below.refl _ w).alloc (Nat.le_refl _) (.cells #[.int .u8 0, .int .u8 0] 194)))
  have HB1 := Lib.hid ((Below.refl _ w).alloc (Nat.le_refl _) (.cells #[.int .u8 0, .int .u8 0] 194))
  clear h0 h1 h2 h3 h4 HF
  obtain ⟨h0, h1, h2, h3, h4⟩ := HF1.out.cells
  generalize w.alloc (.cells #[.int .u8 0, .int .u8 0] 194) = W1 at *
  generalize hHe : w.heap.size = H at *
  have HHE := Lib.hid hHe
  clear hHe
  obtain ⟨r, hL⟩ := two_bytes hp
  have HL := Lib.hid hL
  clear hL
  go_cut [16] (fun _ wc => Below H w wc ∧ wc.heap[H]? = some (.cells #[.int .u8 (bt s p : Int), .int .u8 (bt s (p + 1) : Int)] 194 (0, 0)))
  case first =>
    as_aux_lemma =>
    -- BEGIN one
    have e1 : (0 : Int) ≤ (p : Int) := by omega
    have e2 : (p : Int) ≤ (s.size : Int) := by omega
    have e3 : p ≤ s.size := by omega
    go_region_law ((refine step_copy_two rfl (.tmp 6) (.tmp 15) 73 9 rfl 5 Try.underlying73 size8 H 2 rfl (s.extract p s.size) rfl s[p] s[p + 1] r HL.out 194 _ _ (show W1.drew.heap[H]? = _ from HH.out) ?_))
    all_goals
      go_wp2_with fail
      go_meet
      have := two_laid (x0 := .int .u8 (s[p].toNat : Int)) (x1 := .int .u8 (s[p + 1].toNat : Int)) HB1.out HH.out
      rw [bt_at, bt_at] at this
      rw [bt_at, bt_at]
      exact this
    -- END one
  case rest =>
    obtain ⟨hb2, hh2⟩ := hcut
    have HF2 := Lib.hid (HF0.out.below (by rw [HHE.out]; exact hb2))
    have HS2 : Hid (Step [] w O wc O) := Lib.hid (Step.of_below_same (by rw [HHE.out]; exact hb2) O)
    have HH2 := Lib.hid hh2
    obtain ⟨⟨c0, c1⟩, _⟩ := two hh2
    clear h0 h1 h2 h3 h4 HF1 HB1 HH HL hb2 hh2 HF0
    obtain ⟨h0, h1, h2, h3, h4⟩ := HF2.out.cells
    obtain ⟨pv, hpv⟩ : ∃ pv, pv = prev2 (bt s) p p := ⟨_, rfl⟩
    have HPV := Lib.hid hpv
    have k1 : ∀ n, (Instr.lookup 141 (.map (some B)) (.agg #[.int .u8 (bt s p : Int), .int .u8 (bt s (p + 1) : Int)]) true).run Try.prog (wc.drewN n) = .ok (.tuple #[.int .i64 (if pv = -1 then 0 else pv), .bool (decide (pv ≠ -1))]) (wc.drewN n) := fun n => by rw [hpv]; exact (HF2.out.drewN n).look hp
    have k2 := k1 1
    clear hpv
    have KF3 := Lib.hid (fun n => HF2.out.drewN n)
    have KS3 := Lib.hid (fun n => HS2.out.drewN n)
    have KH3 : Hid (∀ n, (wc.drewN n).heap[H]? = _) := Lib.hid (fun n => HH2.out)
    by_cases hm : pv = -1
    · subst hm
      rw [if_pos rfl] at k1 k2
      have k0 : decide ((-1 : Int) ≠ -1) = false := by decide
      rw [k0] at k1 k2
      clear k0
      as_aux_lemma =>
      go_upto_region 3 with (fail)
      go_quiet (fail)
      clear k1 k2
      have HF3 := Lib.hid (KF3.out nq)
      have HS3 := Lib.hid (KS3.out nq)
      have HH3 := Lib.hid (KH3.out nq)
      generalize wc.drewN nq = W5 at *
      clear HF2 HS2 HH2 KF3 KS3 KH3 h0 h1 h2 h3 h4 c0 c1
      go_upto_region 6 with (fail)
      obtain ⟨⟨c0, c1⟩, _⟩ := two HH3.out
      obtain ⟨h0, h1, h2, h3, h4⟩ := HF3.out.cells
      have HOW := Lib.hid HF3.out.own
      go_still_tail 9, (by kernel_rfl)
      change wpList _ _ _ _ _ W5.drew
      go_wp2_with (at_mapUpdate; refine wpList_mapUpdate_own _ rfl _ _ _ 141 rfl 194 3 law2 Try.underlying141 _ B p D rfl HOW.out.drew (by unfold maxLen; omega) _ _ (key2 s p) rfl rfl (key_of2 s p) (.lit (.int .i64 (p : Int))) [] (plainElem_int Try.underlying3 (wf64 (by omega))) ?_; intro w6 hown6 hgrow6)
      have hmap := HF3.out.drew.mapped hp hown6 hgrow6
      have HM := Lib.hid hmap.1
      have HS6 := Lib.hid (((HS3.out.mono (ds := [c]) (by simp)).drew).trans hmap.2)
      clear hmap hown6 hgrow6 HOW HF3 HS3 HH3 h0 h1 h2 h3 h4 c0 c1
      go_wp2_with fail
      go_ret
      exact ⟨by rw [← HPV.out]; rfl, _, HS6.out, HM.out⟩
    · rw [if_neg hm] at k1 k2
      have k0 : decide (pv ≠ -1) = true := by simpa using hm
      rw [k0] at k1 k2
      clear k0 hm
      as_aux_lemma =>
      go_upto_region 3 with (fail)
      go_quiet (fail)
      clear k1 k2
      have HF3 := Lib.hid (KF3.out nq)
      have HS3 := Lib.hid (KS3.out nq)
      have HH3 := Lib.hid (KH3.out nq)
      generalize wc.drewN nq = W5 at *
      clear HF2 HS2 HH2 KF3 KS3 KH3 h0 h1 h2 h3 h4 c0 c1
      go_upto_region 6 with (fail)
      obtain ⟨⟨c0, c1⟩, _⟩ := two HH3.out
      obtain ⟨h0, h1, h2, h3, h4⟩ := HF3.out.cells
      have HOW := Lib.hid HF3.out.own
      go_still_tail 9, (by kernel_rfl)
      change wpList _ _ _ _ _ W5.drew
      go_wp2_with (at_mapUpdate; refine wpList_mapUpdate_own _ rfl _ _ _ 141 rfl 194 3 law2 Try.underlying141 _ B p D rfl HOW.out.drew (by unfold maxLen; omega) _ _ (key2 s p) rfl rfl (key_of2 s p) (.lit (.int .i64 (p : Int))) [] (plainElem_int Try.underlying3 (wf64 (by omega))) ?_; intro w6 hown6 hgrow6)
      have hmap := HF3.out.drew.mapped hp hown6 hgrow6
      have HM := Lib.hid hmap.1
      have HS6 := Lib.hid (((HS3.out.mono (ds := [c]) (by simp)).drew).trans hmap.2)
      clear hmap hown6 hgrow6 HOW HF3 HS3 HH3 h0 h1 h2 h3 h4 c0 c1
      go_wp2_with fail
      go_ret
      exact ⟨by rw [← HPV.out]; rfl, _, HS6.out, HM.out⟩
end
end Go.Proofs.Yteacmcckhjabmaa.Bs
