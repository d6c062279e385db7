/-
  Layer 23, the program's: what the registers begin with; all chunks of a text added.
-/
import Derived.Test.YtoabeohfbikpcaaDoorShaAdd
set_option linter.unusedVariables false
set_option linter.unusedSimpArgs false
namespace Go.Proofs.YtoabeohfbikpcaaDoor.Sh
open Go.RowKit
open Rc
theorem start_built : Tryd.prog.built 46 [(0, .int .u32 1779033703), (1, .int .u32 3144134277), (2, .int .u32 1013904242), (3, .int .u32 2773480762), (4, .int .u32 1359893119), (5, .int .u32 2600822924), (6, .int .u32 528734635), (7, .int .u32 1541459225)] = some (arr32 h0.toL) := by
  kernel_rfl
set_option maxRecDepth 100000 in
set_option maxHeartbeats 4000000 in
theorem start_any (w : World) : Calls Tryd.prog 18 #[] w fun z w' => z = .returned (.agg (arr32 h0.toL)) ∧ Below w.heap.size w w' := by
  have HB := Lib.hid (show Below w.heap.size w (w.alloc (.cells (arr32 h0.toL) 46)) from (Below.refl _ _).alloc (Nat.le_refl _) _)
  have HN := Lib.hid (heap_alloc_new w (.cells (arr32 h0.toL) 46))
  have HS := Lib.hid start_built
  have HL := Lib.hid (show h0.toL.length = 8 from rfl)
  generalize h0.toL = l at *
  go_enter Tryd.func18, Tryd.ntmps18
  go_wp2_with (first | (refine wpList_build_some rfl 46 _ rfl (arr32 l) ?hx ?_; (case hx => simp only [List.map_toArray, List.map_cons, List.map_nil]; refine Eq.trans (congrArg _ ?_) HS.out; rfl)) | (refine wpList_store_row rfl 46 _ _ rfl w.heap.size (arr32 l) rfl rfl 46 _ (heap_alloc_new w _) (by rw [info8r, arr32_size, HL.out]) (by rw [arr32_size, HL.out]; rfl) (arr32_all _) ?_; rw [World.setRow_alloc_new]) | fail)
  --@1
  generalize w.alloc (.cells (arr32 l) 46) = W1 at *
  exact bodyPost_ret (v := .agg (arr32 l)) (results_cell_row rfl _ _ w.heap.size 46 (arr32 l) (0, 0) _ rfl HN.out Tryd.underlying46 rfl (by rw [info8r, arr32_size, HL.out])) rfl ⟨rfl, HB.out⟩
/-- The registers in memory alone. -/
structure AR (w : World) (R : Nat) (rl : List Nat) (wr : World) : Prop where
  fr : Frame (fun k => k = R) w wr
  r : wr.heap[R]? = some (.cells (arr32 rl) 46 (0, 0))
theorem AR.below {w wr w2 : World} {R : Nat} {rl : List Nat} (h : AR w R rl wr) (hb : Below wr.heap.size wr w2) : AR w R rl w2 :=
  ⟨h.fr.trans (Frame.of_below_size (own := fun k => k = R) hb) (fun _ _ e => e), (hb.block R (lt_of_heap h.r)).trans h.r⟩
theorem AR.added {w wr w2 : World} {R B : Nat} {rl r2 y : List Nat} (h : AR w R rl wr) (hB : w.heap.size ≤ B) (ha : AD wr R B r2 y w2) : AR w R r2 w2 :=
  ⟨h.fr.trans ha.fr (fun k hk e => by rcases e with e | e; exact e; omega), ha.r⟩
def Ks (w : World) : Prop := ∀ i, i < 64 → w.cell? ⟨0, i, none⟩ = some (.int .u32 ((kL.getD i 0 : Nat) : Int))
theorem Ks.frame {w wr : World} {R : Nat} (h : Ks w) (hf : Frame (fun k => k = R) w wr) (hR : R ≠ 0) (hz : 0 < w.heap.size) : Ks wr :=
  fun i hi => (hf.cell (p := ⟨0, i, none⟩) hz (Ne.symm hR)).trans (h i hi)
theorem Ks.below {w wr : World} (h : Ks w) (hb : Below w.heap.size w wr) (hz : 0 < w.heap.size) : Ks wr :=
  fun i hi => (World.cell?_of_block (hb.block 0 hz)).trans (h i hi)
set_option maxRecDepth 100000 in
set_option maxHeartbeats 4000000 in
theorem addAll_any (H : R8) (hok : H.ok) (s : List UInt8) (n : Nat) (hs : s.length = 64 * n) (hmax : s.length ≤ 1000000) (R : Nat) (w : World) (hr : w.heap[R]? = some (.cells (arr32 H.toL) 46 (0, 0))) (hR0 : R ≠ 0) (hks : Ks w) :
    Calls Tryd.prog 19 #[.pointer (some ⟨R, 0, none⟩), .string (tx s)] w fun z w' => z = .returned (.tuple #[]) ∧ AR w R (runB s H n).toL w' := by
  have hz : 0 < w.heap.size := by have := lt_of_heap hr; omega
  have HW := Lib.hid (show AR w R (runB s H 0).toL w from ⟨Frame.refl _ _, hr⟩)
  have HKS := Lib.hid (fun (wr : World) (hf : Frame (fun k => k = R) w wr) => hks.frame hf hR0 hz)
  have HRZ := Lib.hid hR0
  have HSZ := Lib.hid (show (tx s).size = 64 * n by rw [tx_size, hs])
  have HCH := Lib.hid (fun q (hq : q < n) => show (tx s).extract (64 * q) (64 * q + 64) = tx ((s.drop (64 * q)).take 64) from by rw [tx_extract]; congr 2; omega)
  have HCL := Lib.hid (fun q (hq : q < n) => show ((s.drop (64 * q)).take 64).length = 64 from by rw [List.length_take, List.length_drop]; omega)
  have HCW := Lib.hid (fun q (hq : q < n) => show wsAt ((s.drop (64 * q)).take 64) 0 = wsAt s (64 * q) from wsAt_any fun j hj => by
    rw [List.getD_eq_getElem?_getD, List.getElem?_take, Nat.zero_add, if_pos hj, List.getElem?_drop, List.getD_eq_getElem?_getD])
  have HOK := Lib.hid (fun q => runB_ok (s := s) hok q)
  have hn : n ≤ 20000 := by omega
  clear hr hR0 hks hs hmax hok hz
  have hS := HSZ.out
  generalize tx s = U at *
  go_enter Tryd.func19, Tryd.ntmps19
  go_wp2_with fail
  go_loopw [4, 5, 6, 7, 8, 9, 10, 11, 12, 13, 14, 15, 16, 17, 18, 19] (fun a _ _ _ _ _ _ _ _ _ _ _ _ _ _ _ wr => ∃ q : Nat, q ≤ n ∧ a = .int .i64 ((64 * q : Nat) : Int) ∧ AR w R (runB s H q).toL wr) (fun a _ _ _ _ _ _ _ _ _ _ _ _ _ _ _ _ => 64 * n - (intOf a).toNat)
  case atStart => exact ⟨0, by omega, rfl, HW.out⟩
  case round =>
    clear HW
    obtain ⟨q, hq, rfl, hw⟩ := hrel
    have HW := Lib.hid hw
    clear hw
    by_cases hlt : q < n
    · as_aux_lemma =>
      have HC := Lib.hid (HCH.out q hlt)
      have HRN := Lib.hid (show runB s H (q + 1) = comp (runB s H q) (wsAt s (64 * q)) from rfl)
      have HCW2 := Lib.hid (HCW.out q hlt)
      have HWO := Lib.hid (fun (V : World) => wordsOf_any ((s.drop (64 * q)).take 64) (HCL.out q hlt) V)
      have HXF := Lib.hid (Wx.first ((s.drop (64 * q)).take 64) 0)
      rw [HCW2.out] at HWO HXF
      have hxl := HXF.out.1
      have HAD := Lib.hid (fun (B : Nat) (V : World) (h1 : AD V R B (runB s H q).toL (wsAt s (64 * q) ++ List.replicate 16 0) V) (h2 : R ≠ B) (h3 : B ≠ 0) (h4 : 0 < V.heap.size) (h5 : Ks V) => add_any (runB s H q) (wsAt s (64 * q)) (wsAt s (64 * q) ++ List.replicate 16 0) (HOK.out q) (wsAt_length _ _) (wsAt_lt s (64 * q)) R B V h1 HXF.out h2 HRZ.out h3 h4 h5)
      rw [← HRN.out] at HAD
      clear HXF HCW2 HCW HCL HCH
      generalize wsAt s (64 * q) ++ List.replicate 16 0 = x at *
      generalize (runB s H q).toL = l at *
      generalize tx ((s.drop (64 * q)).take 64) = V at *
      have hle : 64 * q + 64 ≤ 64 * n := by omega
      --@2
      go_wp2_with fail
      --@3
      rw [HC.out]
      refine (HWO.out _).mono ?_
      rintro z w2 ⟨rfl, hb2⟩
      have HW2 := Lib.hid (HW.out.below hb2)
      have HN := Lib.hid (heap_alloc_new w2 (.cells (arr32 x) 55))
      have HW3 := Lib.hid (HW2.out.below ((Below.refl w2.heap.size w2).alloc (Nat.le_refl _) (.cells (arr32 x) 55)))
      have HSW := Lib.hid (show w.heap.size ≤ w2.heap.size from HW2.out.fr.size)
      have HRL := Lib.hid (show R < w2.heap.size from lt_of_heap HW2.out.r)
      clear hb2 HW
      --@4
      go_wp2_with (first | (refine wpList_store_row rfl 55 _ _ rfl w2.heap.size (arr32 x) rfl rfl 55 _ (heap_alloc_new w2 _) (by rw [info32w, arr32_size, hxl]) (by rw [arr32_size, hxl]; rfl) (arr32_all _) ?_; rw [World.setRow_alloc_new]) | fail)
      --@5
      generalize w2.alloc (.cells (arr32 x) 55) = W3 at *
      generalize w2.heap.size = B at *
      refine (HAD.out B _ ⟨Frame.refl _ _, HW3.out.r, HN.out⟩ (by have := HRL.out; omega) (by have := HRL.out; omega) (by have := HW3.out.fr.size; have := lt_of_heap HN.out; omega) (HKS.out _ HW3.out.fr)).mono ?_
      rintro z w4 ⟨rfl, y, ha⟩
      have HW4 := Lib.hid (HW3.out.added HSW.out ha)
      clear ha
      --@6
      go_wp2_with fail
      go_roundw
      case rel => exact ⟨q + 1, by omega, by go_num, HW4.out⟩
      case measure => simp [intOf]; omega
    · as_aux_lemma =>
      have hqn : q = n := by omega
      rw [hqn] at HW
      --@7
      go_wp2_with fail
      first | go_end0 | (simp only [Exit.inBlock, Exit.then]; refine bodyPost_ret (results_none rfl _ _ _) rfl ?_) | refine bodyPost_ret (results_none rfl _ _ _) rfl ?_
      exact ⟨rfl, HW.out⟩
end Go.Proofs.YtoabeohfbikpcaaDoor.Sh
