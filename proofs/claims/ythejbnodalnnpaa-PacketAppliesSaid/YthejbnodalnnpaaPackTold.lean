/-
  Layer 6's statements: the list that came in, as the program's packets and as the document's.
-/
import Derived.Test.YthejbnodalnnpaaPackTells
import Derived.Test.YthejbnodalnnpaaPackRepeat
import Derived.Test.YthejbnodalnnpaaHead
import Derived.Deep.AppendLies
import Derived.Deep.RegionHeld3
import Derived.Deep.CutBlock
import Derived.Deep.DeepCutAuto
namespace Go.Proofs.Ythejbnodalnnpaa.Pk
open Go.RowKit
/-- A slice of a type t that owns just these packets. -/
def PtsT (t : TypeId) (w : World) (v : Value) (l : List Pt) : Prop := w.ownsRow 0 t 4 v l.length (flatP l)
theorem PtsT.slice {t : TypeId} {w : World} {v : Value} {l : List Pt} (h : PtsT t w v l) (hb : ∀ p ∈ l, p.b < 256) : ∃ a cap, v = .slice a l.length cap ∧ IsPts w a l := by
  rcases h.2 with ⟨h1, h2⟩ | ⟨g, cap, cur, rfl, _, hg, hnc, hcm, hcs, htake⟩
  · exact ⟨none, 0, by rw [h1, h2], .inl (List.eq_nil_of_length_eq_zero h2)⟩
  · refine ⟨_, cap, rfl, .inr ⟨g, 0, rfl, fun i hi => ?_⟩⟩
    obtain ⟨k0, k1, k2, k3⟩ := flatP_at l i hi
    have key : ∀ j x, (flatP l)[j]? = some x → w.cell? ⟨g, j, none⟩ = some x := fun j x hx => by
      have hj : j < (flatP l).length := (List.getElem?_eq_some_iff.1 hx).1
      rw [flatP_length] at hj
      rw [World.ownsRow.cellAt h j hj]
      exact hx
    rw [Nat.zero_add]
    exact ⟨key _ _ k0, key _ _ k1, key _ _ k2, key _ _ k3, hb _ (List.getElem_mem hi)⟩
theorem PtsT.below {t : TypeId} {w w' : World} {v : Value} {l : List Pt} (h : PtsT t w v l) (hb : Below w.heap.size w w') : PtsT t w' v l :=
  ownsRow_frame h (Frame.of_below_size (own := fun _ => False) hb) (fun _ _ => id)
theorem own4_drew {t : TypeId} {w : World} {v : Value} {n : Nat} {xs : List Value} (h : w.ownsRow 0 t 4 v n xs) : w.drew.ownsRow 0 t 4 v n xs := h
theorem own4_alloc {t : TypeId} {w : World} {v : Value} {n : Nat} {xs : List Value} (o : Obj) (h : w.ownsRow 0 t 4 v n xs) : (w.alloc o).ownsRow 0 t 4 v n xs := World.ownsRow.alloc h o
theorem own4_kept {t : TypeId} {w w' : World} {v u : Value} {n : Nat} {xs : List Value} (h : w.ownsRow 0 t 4 v n xs) (hg : w.grownBy w' u.ownBlock) (hn : ∀ k, v.ownBlock = some k → u.ownBlock ≠ some k) : w'.ownsRow 0 t 4 v n xs :=
  ownsRow_frame h ((Frame.refl (fun k => u.ownBlock = some k) w).grown hg (fun _ hk => .inl hk)) hn
theorem blk4_drew {w : World} {k : Nat} {o : Obj} (h : w.heap[k]? = some o) : w.drew.heap[k]? = some o := h
theorem blk4_alloc {w : World} {k : Nat} {o o' : Obj} (h : w.heap[k]? = some o) : (w.alloc o').heap[k]? = some o := (Below.heap_alloc w o' k (lt_of_heap h)).trans h
theorem blk4_here {w : World} {k : Nat} {o : Obj} (h : k = w.heap.size) : (w.alloc o).heap[k]? = some o := by subst h; exact heap_alloc_new w o
theorem blk4_grown {w w' : World} {v : Value} {X B : Nat} {o : Obj} (hg : w.grownBy w' v.ownBlock) (hv : ∀ k, v.ownBlock = some k → k < B) (hX : B ≤ X) (h : w.heap[X]? = some o) : w'.heap[X]? = some o :=
  (hg.block X (lt_of_heap h) (fun e => by have := hv X e.symm; omega)).trans h
theorem own4_ne {t u : TypeId} {w : World} {v1 v2 : Value} {n m : Nat} {xs ys : List Value} (h : w.ownsRow 0 t 4 v1 n xs) (k : w.ownsRow 0 u 4 v2 m ys) (ht : t ≠ u) : ∀ j, v1.ownBlock = some j → v2.ownBlock ≠ some j := by
  intro j h1 h2
  rcases h.2 with ⟨e1, _⟩ | ⟨g1, c1, cur1, e1, _, hg1, _⟩
  · rw [e1] at h1; simp [Value.ownBlock] at h1
  · rcases k.2 with ⟨e2, _⟩ | ⟨g2, c2, cur2, e2, _, hg2, _⟩
    · rw [e2] at h2; simp [Value.ownBlock] at h2
    · rw [e1] at h1
      rw [e2] at h2
      simp [Value.ownBlock] at h1 h2
      subst h1
      subst h2
      rw [hg1] at hg2
      simp only [Option.some.injEq, Obj.cells.injEq] at hg2
      exact ht hg2.2.1
theorem pt_news {w : World} {X : Nat} {a b c d : Value} {t : TypeId} (h : w.heap[X]? = some (.cells #[a, b, c, d] t (0, 0))) : ∀ j u, [a, b, c, d][j]? = some u → w.cell? ((⟨X, 0, none⟩ : Addr).add j) = some u := World.news_of_block h
/-- What the loop holds. -/
structure ToldAt (w0 : World) (va vb : Value) (psa psb : List Pt) (w : World) : Prop where
  rowA : PtsT 74 w va psa
  rowB : PtsT 73 w vb psb
  below : Below w0.heap.size w0 w
  ownA : ∀ k, va.ownBlock = some k → w0.heap.size ≤ k
  ownB : ∀ k, vb.ownBlock = some k → w0.heap.size ≤ k
theorem infoPr : (Try.prog.info? 73).map (fun i => (i.zero, i.size, i.bytes)) = some (some (.agg #[.int .i64 0, .int .i64 0, .int .i64 0, .int .u8 0]), 4, 32) := by kernel_rfl
theorem pt_one (a b c : Int) (d : Nat) : ∀ u ∈ [Value.int .i64 a, .int .i64 b, .int .i64 c, .int .u8 (d : Int)], u.oneCell' = true := by
  intro u hu
  simp at hu
  rcases hu with rfl | rfl | rfl | rfl <;> rfl
def ptCells (p : Pt) : List Value := [.int .i64 p.k, .int .i64 p.d, .int .i64 p.n, .int .u8 (p.b : Int)]
theorem take_flat (ps : List Pt) (k : Nat) (hk : k < ps.length) : flatP (ps.take (k + 1)) = flatP (ps.take k) ++ [.int .i64 ps[k].k, .int .i64 ps[k].d, .int .i64 ps[k].n, .int .u8 (ps[k].b : Int)] := by
  rw [List.take_succ_eq_append_getElem hk, flatP_append]; rfl
theorem take_len (ps : List Pt) (k : Nat) (hk : k ≤ ps.length) : (ps.take k).length = k := by simp; omega
/-- What both appends leave. -/
def BothAt (w0 : World) (va' vb' : Value) (n : Nat) (xs : List Value) (w : World) : Prop := w.ownsRow 0 74 4 va' n xs ∧ w.ownsRow 0 73 4 vb' n xs ∧ Below w0.heap.size w0 w ∧ (∀ k, va'.ownBlock = some k → w0.heap.size ≤ k) ∧ ∀ k, vb'.ownBlock = some k → w0.heap.size ≤ k
/-- Since w nothing that was there was written, but for the blocks of two rows. -/
def Since (w : World) (va vb : Value) (W : World) : Prop := Frame (fun k => va.ownBlock = some k ∨ vb.ownBlock = some k) w W
theorem Since.refl (w : World) (va vb : Value) : Since w va vb w := Frame.refl _ w
theorem Since.drew {w W : World} {va vb : Value} (h : Since w va vb W) : Since w va vb W.drew := Frame.drew h
theorem Since.alloc {w W : World} {va vb : Value} (o : Obj) (h : Since w va vb W) : Since w va vb (W.alloc o) := Frame.alloc h o
theorem Since.appA {w W W' : World} {va vb : Value} (h : Since w va vb W) (hg : W.grownBy W' va.ownBlock) : Since w va vb W' := Frame.grown h hg (fun _ hk => .inl (.inl hk))
theorem Since.appB {w W W' : World} {va vb : Value} (h : Since w va vb W) (hg : W.grownBy W' vb.ownBlock) : Since w va vb W' := Frame.grown h hg (fun _ hk => .inl (.inr hk))
theorem both_of {w0 w W : World} {va vb : Value} {n ga ca gb cb : Nat} {xs : List Value} (hb : Below w0.heap.size w0 w) (hA : ∀ k, va.ownBlock = some k → w0.heap.size ≤ k) (hB : ∀ k, vb.ownBlock = some k → w0.heap.size ≤ k) (hs : Since w va vb W)
    (r1 : W.ownsRow 0 74 4 (.slice (some ⟨ga, 0, none⟩) n ca) n xs) (r2 : W.ownsRow 0 73 4 (.slice (some ⟨gb, 0, none⟩) n cb) n xs) (h1 : w0.heap.size ≤ ga) (h2 : w0.heap.size ≤ gb) : BothAt w0 (.slice (some ⟨ga, 0, none⟩) n ca) (.slice (some ⟨gb, 0, none⟩) n cb) n xs W :=
  ⟨r1, r2, hb.trans (Frame.below hs hb.size (fun k hk ho => by rcases ho with e | e; (have := hA k e; omega); (have := hB k e; omega))), fun k hk => by simp [Value.ownBlock] at hk; omega, fun k hk => by simp [Value.ownBlock] at hk; omega⟩
theorem told_end {w w1 W : World} {u4 u5 va vb : Value} {ps : List Pt} {k : Nat} {ys : List Value} (_h : ToldAt w u4 u5 (ps.take k) (ps.take k) w1) (hf : flatP (ps.take (k + 1)) = ys) (hk : k + 1 ≤ ps.length) (hb : BothAt w va vb (k + 1) ys W) : ToldAt w va vb (ps.take (k + 1)) (ps.take (k + 1)) W := by
  obtain ⟨h1, h2, h3, h4, h5⟩ := hb
  have hl : (ps.take (k + 1)).length = k + 1 := take_len ps (k + 1) hk
  refine ⟨?_, ?_, h3, h4, h5⟩
  · unfold PtsT; rw [hl, hf]; exact h1
  · unfold PtsT; rw [hl, hf]; exact h2
set_option maxRecDepth 100000 in
set_option maxHeartbeats 8000000 in
theorem told_any {w : World} {a0 : Option Addr} {len cap : Nat} {ps : List Pt} (hps : ps.length = min len 60) (hlen : len ≤ 9223372036854775807) (h : IsPts w a0 ps) :
    Calls Try.prog 35 #[.slice a0 len cap] w fun x w' => ∃ va vb, x = .returned (.tuple #[va, vb]) ∧ ToldAt w va vb ps ps w' := by
  have HPS := Lib.hid hps
  have h60 : ps.length ≤ 60 := by omega
  have hpl : ps.length ≤ len := by omega
  have HIP := Lib.hid h
  clear hps h
  go_enter Try.func35, Try.ntmps35
  go_wp2_with fail
  go_loopw [4, 5, 6] (fun va vb i wr => ∃ k : Nat, k ≤ ps.length ∧ i = .int .i64 k ∧ ToldAt w va vb (ps.take k) (ps.take k) wr) (fun _ _ i _ => ps.length - (intOf i).toNat)
  case atStart => exact ⟨0, by omega, rfl, World.ownsRow_nil _ _ _ _, World.ownsRow_nil _ _ _ _, Below.refl _ _, by simp [Value.ownBlock], by simp [Value.ownBlock]⟩
  case round =>
    obtain ⟨k, hk, rfl, hT⟩ := hrel
    by_cases hlt : k < ps.length
    · have hl1 : k < len := by omega
      have hl2 : k < 60 := by omega
      rcases HIP.out with he | ⟨b0, off, rfl, hc⟩
      · rw [he] at hlt; simp at hlt
      · have hb0 := World.block_lt_of_cell? _ _ (hc k hlt).1
        have hpt := (hc k hlt).below hT.below
        have HPT := Lib.hid hpt
        have HTF := Lib.hid (take_flat ps k hlt)
        have HTL := Lib.hid (take_len ps k hk)
        have HT := Lib.hid hT
        have HRA : Hid (wr.ownsRow 0 74 4 u4 k (flatP (ps.take k))) := Lib.hid (by have := hT.rowA; unfold PtsT at this; rw [take_len ps k hk] at this; exact this)
        have HRB : Hid (wr.ownsRow 0 73 4 u5 k (flatP (ps.take k))) := Lib.hid (by have := hT.rowB; unfold PtsT at this; rw [take_len ps k hk] at this; exact this)
        have HAB := Lib.hid (own4_ne HRA.out HRB.out (by decide))
        have HBA := Lib.hid (own4_ne HRB.out HRA.out (by decide))
        have HVA := Lib.hid (fun j hj => ownsRow_lt HRA.out j hj)
        have HVB := Lib.hid (fun j hj => ownsRow_lt HRB.out j hj)
        clear hT hc hpt
        generalize ps[k] = p at *
        obtain ⟨c0, c1, c2, c3, _⟩ := HPT.out
        obtain ⟨i0, hi, hz0, hz1, hz2⟩ := info_parts infoPk
        obtain ⟨j0, hj, hy0, hy1, hy2⟩ := info_parts infoPr
        have hm1 : k + 1 ≤ maxLen := by unfold maxLen; omega
        have hm2 : (k + 1) * 32 ≤ 140737488355328 := by omega
        generalize flatP (ps.take k) = xs at *
        have HS0 := Lib.hid (Since.refl wr u4 u5)
        have HBW := Lib.hid HT.out.below
        have HC := Lib.hid (show ∀ W, Since wr u4 u5 W → W.cell? ⟨b0, off + k * 4, none⟩ = some (.int .i64 p.k) ∧ W.cell? ⟨b0, off + k * 4 + 1, none⟩ = some (.int .i64 p.d) ∧ W.cell? ⟨b0, off + k * 4 + 2, none⟩ = some (.int .i64 p.n) ∧ W.cell? ⟨b0, off + k * 4 + 3, none⟩ = some (.int .u8 (p.b : Int)) from fun W hW => by
          have hno : ¬ (u4.ownBlock = some b0 ∨ u5.ownBlock = some b0) := by
            rintro (e | e)
            · have := HT.out.ownA b0 e; simp only at hb0; omega
            · have := HT.out.ownB b0 e; simp only at hb0; omega
          have hbr : b0 < wr.heap.size := Nat.lt_of_lt_of_le hb0 HT.out.below.size
          exact ⟨(hW.cell (p := ⟨b0, off + k * 4, none⟩) hbr hno).trans HPT.out.1, (hW.cell (p := ⟨b0, off + k * 4 + 1, none⟩) hbr hno).trans HPT.out.2.1, (hW.cell (p := ⟨b0, off + k * 4 + 2, none⟩) hbr hno).trans HPT.out.2.2.1, (hW.cell (p := ⟨b0, off + k * 4 + 3, none⟩) hbr hno).trans HPT.out.2.2.2.1⟩)
        go_upto_region 6 with (fail)
        have i1 : (0 : Int) ≤ (k : Int) := by omega
        have i2 : (k : Int) < (len : Int) := by omega
        -- BEGIN app
        refine Tail.region_head (fun W => W.cell? ⟨b0, off + k * 4, none⟩ = some (.int .i64 p.k) ∧ W.cell? ⟨b0, off + k * 4 + 1, none⟩ = some (.int .i64 p.d) ∧ W.cell? ⟨b0, off + k * 4 + 2, none⟩ = some (.int .i64 p.n) ∧ W.cell? ⟨b0, off + k * 4 + 3, none⟩ = some (.int .u8 (p.b : Int))) 14 2 #[true, true, true, true, true, true, true, true, true, true, true, true, true, true, false, false] (by kernel_rfl) ⟨by kernel_rfl, by decide, by kernel_rfl, by kernel_rfl, by kernel_rfl⟩ (by kernel_rfl) (HC.out _ (by repeat (with_reducible first | exact HS0.out | refine Since.drew ?_ | refine Since.alloc _ ?_))) (fun ok hHeld => ?_)
        refine Tail.head_take ok (i := 0) (v := ?tv1) rfl rfl (by kernel_rfl) (by kernel_rfl) (by kernel_rfl) (fun _ _ _ h => h) (Or.inl ⟨by rfl, ?th1⟩) (by assumption) ?tr1
        case th1 => (intro w hSw; (try dsimp only at hSw); go_simp; (try with_reducible rfl))
        try simp only [Act.put]
        try simp only [List.setIfInBounds_toArray]
        try simp only [List.set]
        refine Tail.head_take ok (i := 1) (v := ?tv2) rfl rfl (by kernel_rfl) (by kernel_rfl) (by kernel_rfl) (fun _ _ _ h => h) (Or.inl ⟨by rfl, ?th2⟩) (by assumption) ?tr2
        case th2 => (intro w hSw; (try dsimp only at hSw); go_simp; (try with_reducible rfl))
        try simp only [Act.put]
        try simp only [List.setIfInBounds_toArray]
        try simp only [List.set]
        refine Tail.head_take ok (i := 2) (v := ?tv3) rfl rfl (by kernel_rfl) (by kernel_rfl) (by kernel_rfl) (fun _ _ _ h => h) (Or.inl ⟨by rfl, ?th3⟩) (by assumption) ?tr3
        case th3 => (intro w hSw; (try dsimp only at hSw); go_simp; (try with_reducible rfl))
        try simp only [Act.put]
        try simp only [List.setIfInBounds_toArray]
        try simp only [List.set]
        refine Tail.head_take ok (i := 3) (v := ?tv4) rfl rfl (by kernel_rfl) (by kernel_rfl) (by kernel_rfl) (fun _ _ _ h => h) (Or.inl ⟨by rfl, ?th4⟩) (by assumption) ?tr4
        case th4 => (intro w hSw; (try dsimp only at hSw); go_simp; (try with_reducible rfl))
        try simp only [Act.put]
        try simp only [List.setIfInBounds_toArray]
        try simp only [List.set]
        refine Tail.head_take ok (i := 4) (v := ?tv5) rfl rfl (by kernel_rfl) (by kernel_rfl) (by kernel_rfl) (fun _ _ _ h => h) (Or.inl ⟨by rfl, ?th5⟩) (by assumption) ?tr5
        case th5 => (intro w hSw; (try dsimp only at hSw); go_simp; (try with_reducible rfl))
        try simp only [Act.put]
        try simp only [List.setIfInBounds_toArray]
        try simp only [List.set]
        refine Tail.head_take ok (i := 7) (v := ?tv6) rfl rfl (by kernel_rfl) (by kernel_rfl) (by kernel_rfl) (fun _ _ _ h => h) (Or.inl ⟨by rfl, ?th6⟩) (by assumption) ?tr6
        case th6 => (intro w hSw; (try dsimp only at hSw); go_simp; (try with_reducible rfl))
        try simp only [Act.put]
        try simp only [List.setIfInBounds_toArray]
        try simp only [List.set]
        refine Tail.head_take ok (i := 8) (v := ?tv7) rfl rfl (by kernel_rfl) (by kernel_rfl) (by kernel_rfl) (fun _ _ _ h => h) (Or.inl ⟨by rfl, ?th7⟩) (by assumption) ?tr7
        case th7 => (intro w hSw; (try dsimp only at hSw); go_simp; (try with_reducible rfl))
        try simp only [Act.put]
        try simp only [List.setIfInBounds_toArray]
        try simp only [List.set]
        refine Tail.head_take ok (i := 9) (v := ?tv8) rfl rfl (by kernel_rfl) (by kernel_rfl) (by kernel_rfl) (fun _ _ _ h => h) (Or.inl ⟨by rfl, ?th8⟩) (by assumption) ?tr8
        case th8 => (intro w hSw; (try dsimp only at hSw); go_simp; (try with_reducible rfl))
        try simp only [Act.put]
        try simp only [List.setIfInBounds_toArray]
        try simp only [List.set]
        refine Tail.head_take ok (i := 10) (v := ?tv9) rfl rfl (by kernel_rfl) (by kernel_rfl) (by kernel_rfl) (fun _ _ _ h => h) (Or.inl ⟨by rfl, ?th9⟩) (by assumption) ?tr9
        case th9 => (intro w hSw; (try dsimp only at hSw); go_simp; (try with_reducible rfl))
        try simp only [Act.put]
        try simp only [List.setIfInBounds_toArray]
        try simp only [List.set]
        refine Tail.head_take ok (i := 11) (v := ?tv10) rfl rfl (by kernel_rfl) (by kernel_rfl) (by kernel_rfl) (fun _ _ _ h => h) (Or.inl ⟨by rfl, ?th10⟩) (by assumption) ?tr10
        case th10 => (intro w hSw; (try dsimp only at hSw); go_simp; (try with_reducible rfl))
        try simp only [Act.put]
        try simp only [List.setIfInBounds_toArray]
        try simp only [List.set]
        refine Tail.head_ready (rs := [5, 12]) (by kernel_rfl) (by simp) (by kernel_rfl) ?_
        refine Tail.AllHead.cons rfl (fun K hK => ?_) ?_
        focus
          go_simp
          refine hK.out _ _ (HC.out _ (by repeat (with_reducible first | exact HS0.out | refine Since.drew ?_ | refine Since.alloc _ ?_))) (fun hHeld => ?_)
          clear hK K
          try simp only [Act.put]
          try simp only [List.setIfInBounds_toArray]
          try simp only [List.set]
          refine Tail.head_ready (rs := [6, 12]) (by kernel_rfl) (by simp) (by kernel_rfl) ?_
          refine Tail.AllHead.cons rfl (fun K hK => ?_) ?_
          focus
            refine step_append_lies _ rfl (.tmp 17) (.tmp 22) 61 rfl 0 74 i0 (.agg #[.int .i64 0, .int .i64 0, .int .i64 0, .int .u8 0]) 4 32 Try.underlying61 hi hz0 hz1 hz2 rfl (by decide) u4 k xs (by simp [Act.eval]) (by repeat (with_reducible first | exact HRA.out | refine own4_drew ?_ | refine own4_alloc _ ?_)) ⟨_, 0, none⟩ 1 1 [.int .i64 p.k, .int .i64 p.d, .int .i64 p.n, .int .u8 (p.b : Int)] (by first | (simp [Act.eval]; done) | (simp [Act.eval]; rfl)) rfl (pt_news (t := 74) (by repeat (with_reducible first | exact blk4_here (by simp) | refine blk4_drew ?_ | refine blk4_alloc ?_))) (pt_one _ _ _ _) (by decide) hm1 hm2 (Nat.zero_le _) _ rfl ?_
            intro ga pa wa hra hba hga hla
            have hSA : Since wr u4 u5 wa := Since.appA (by repeat (with_reducible first | exact HS0.out | refine Since.drew ?_ | refine Since.alloc _ ?_)) hba
            have hRB2 : wa.ownsRow 0 73 4 u5 k xs := own4_kept (by repeat (with_reducible first | exact HRB.out | refine own4_drew ?_ | refine own4_alloc _ ?_)) hba HBA.out
            have hga2 : w.heap.size ≤ ga := by rcases hga with e | e; (exact HT.out.ownA _ e); ((try simp at e); have h1 := HBW.out.size; omega)
            refine hK.out _ _ (HC.out _ (by repeat (with_reducible first | exact hSA | refine Since.drew ?_ | refine Since.alloc _ ?_))) (fun hHeld => ?_)
            clear hK K
            try simp only [Act.put]
            try simp only [List.setIfInBounds_toArray]
            try simp only [List.set]
            refine Tail.head_ready (rs := [12]) (by kernel_rfl) (by simp) (by kernel_rfl) ?_
            refine Tail.AllHead.cons rfl (fun K hK => ?_) Tail.AllHead.nil
            go_simp
            refine hK.out _ _ (HC.out _ (by repeat (with_reducible first | exact hSA | refine Since.drew ?_ | refine Since.alloc _ ?_))) (fun hHeld => ?_)
            clear hK K
            try simp only [Act.put]
            try simp only [List.setIfInBounds_toArray]
            try simp only [List.set]
            refine Tail.head_ready (rs := [13]) (by kernel_rfl) (by simp) (by kernel_rfl) ?_
            refine Tail.AllHead.cons rfl (fun K hK => ?_) Tail.AllHead.nil
            refine step_append_lies _ rfl (.tmp 24) (.tmp 29) 62 rfl 0 73 j0 (.agg #[.int .i64 0, .int .i64 0, .int .i64 0, .int .u8 0]) 4 32 Try.underlying62 hj hy0 hy1 hy2 rfl (by decide) u5 k xs (by simp [Act.eval]) (by repeat (with_reducible first | exact hRB2 | refine own4_drew ?_ | refine own4_alloc _ ?_)) ⟨_, 0, none⟩ 1 1 [.int .i64 p.k, .int .i64 p.d, .int .i64 p.n, .int .u8 (p.b : Int)] (by first | (simp [Act.eval]; done) | (simp [Act.eval]; rfl)) rfl (pt_news (t := 73) (by repeat (with_reducible first | exact blk4_here (by simp) | refine blk4_drew ?_ | refine blk4_alloc ?_))) (pt_one _ _ _ _) (by decide) hm1 hm2 (Nat.zero_le _) _ rfl ?_
            intro gb pb wb hrb hbb hgb hlb
            have hSB : Since wr u4 u5 wb := Since.appB (by repeat (with_reducible first | exact hSA | refine Since.drew ?_ | refine Since.alloc _ ?_)) hbb
            have hra2 : wb.ownsRow 0 74 4 (.slice (some ⟨ga, 0, none⟩) (k + 1) pa) (k + 1) (xs ++ [.int .i64 p.k, .int .i64 p.d, .int .i64 p.n, .int .u8 (p.b : Int)]) := own4_kept (by repeat (with_reducible first | exact hra | refine own4_drew ?_ | refine own4_alloc _ ?_)) hbb (own4_ne (by repeat (with_reducible first | exact hra | refine own4_drew ?_ | refine own4_alloc _ ?_)) (by repeat (with_reducible first | exact hRB2 | refine own4_drew ?_ | refine own4_alloc _ ?_)) (by decide))
            have hgb2 : w.heap.size ≤ gb := by rcases hgb with e | e; (exact HT.out.ownB _ e); ((try simp at e); have h1 := HBW.out.size; have h2 := hSA.size; omega)
            refine hK.out _ _ (HC.out _ (by repeat (with_reducible first | exact hSB | refine Since.drew ?_ | refine Since.alloc _ ?_))) (fun hHeld => ?_)
            clear hK K
            try simp only [Act.put]
            try simp only [List.setIfInBounds_toArray]
            try simp only [List.set]
            refine Tail.head_done rfl ?_
            refine wpAny_ready (rs := [14]) (by kernel_rfl) (by simp) ?_
            refine AllReady.cons rfl (fun K hK => ?_) AllReady.nil
            go_simp
            refine hK _ _ ?_
            clear hK K
            try simp only [Act.put]
            try simp only [List.setIfInBounds_toArray]
            try simp only [List.set]
            refine wpAny_ready (rs := [15]) (by kernel_rfl) (by simp) ?_
            refine AllReady.cons rfl (fun K hK => ?_) AllReady.nil
            go_simp
            refine hK _ _ ?_
            clear hK K
            try simp only [Act.put]
            try simp only [List.setIfInBounds_toArray]
            try simp only [List.set]
            refine wpAny_done (by kernel_rfl) ?_ _
            have HEND := Lib.hid (told_end HT.out HTF.out (by omega) (both_of HBW.out HT.out.ownA HT.out.ownB hSB hra2 hrb hga2 hgb2))
            go_wp2_with fail
            go_roundw
            case rel => exact ⟨k + 1, by omega, by go_num, HEND.out⟩
            case measure => simp [intOf]; omega
          refine Tail.AllHead.cons rfl (fun K hK => ?_) Tail.AllHead.nil
          focus
            go_simp
            refine hK.out _ _ (HC.out _ (by repeat (with_reducible first | exact HS0.out | refine Since.drew ?_ | refine Since.alloc _ ?_))) (fun hHeld => ?_)
            clear hK K
            try simp only [Act.put]
            try simp only [List.setIfInBounds_toArray]
            try simp only [List.set]
            refine Tail.head_ready (rs := [6]) (by kernel_rfl) (by simp) (by kernel_rfl) ?_
            refine Tail.AllHead.cons rfl (fun K hK => ?_) Tail.AllHead.nil
            refine step_append_lies _ rfl (.tmp 17) (.tmp 22) 61 rfl 0 74 i0 (.agg #[.int .i64 0, .int .i64 0, .int .i64 0, .int .u8 0]) 4 32 Try.underlying61 hi hz0 hz1 hz2 rfl (by decide) u4 k xs (by simp [Act.eval]) (by repeat (with_reducible first | exact HRA.out | refine own4_drew ?_ | refine own4_alloc _ ?_)) ⟨_, 0, none⟩ 1 1 [.int .i64 p.k, .int .i64 p.d, .int .i64 p.n, .int .u8 (p.b : Int)] (by first | (simp [Act.eval]; done) | (simp [Act.eval]; rfl)) rfl (pt_news (t := 74) (by repeat (with_reducible first | exact blk4_here (by simp) | refine blk4_drew ?_ | refine blk4_alloc ?_))) (pt_one _ _ _ _) (by decide) hm1 hm2 (Nat.zero_le _) _ rfl ?_
            intro ga pa wa hra hba hga hla
            have hSA : Since wr u4 u5 wa := Since.appA (by repeat (with_reducible first | exact HS0.out | refine Since.drew ?_ | refine Since.alloc _ ?_)) hba
            have hRB2 : wa.ownsRow 0 73 4 u5 k xs := own4_kept (by repeat (with_reducible first | exact HRB.out | refine own4_drew ?_ | refine own4_alloc _ ?_)) hba HBA.out
            have hga2 : w.heap.size ≤ ga := by rcases hga with e | e; (exact HT.out.ownA _ e); ((try simp at e); have h1 := HBW.out.size; omega)
            have hNB : wa.heap[wr.heap.size + 1]? = some (.cells #[.int .i64 p.k, .int .i64 p.d, .int .i64 p.n, .int .u8 (p.b : Int)] 73 (0, 0)) := blk4_grown hba HVA.out (by omega) (by repeat (with_reducible first | exact blk4_here (by simp) | refine blk4_drew ?_ | refine blk4_alloc ?_))
            refine hK.out _ _ (HC.out _ (by repeat (with_reducible first | exact hSA | refine Since.drew ?_ | refine Since.alloc _ ?_))) (fun hHeld => ?_)
            clear hK K
            try simp only [Act.put]
            try simp only [List.setIfInBounds_toArray]
            try simp only [List.set]
            refine Tail.head_ready (rs := [13]) (by kernel_rfl) (by simp) (by kernel_rfl) ?_
            refine Tail.AllHead.cons rfl (fun K hK => ?_) Tail.AllHead.nil
            refine step_append_lies _ rfl (.tmp 24) (.tmp 29) 62 rfl 0 73 j0 (.agg #[.int .i64 0, .int .i64 0, .int .i64 0, .int .u8 0]) 4 32 Try.underlying62 hj hy0 hy1 hy2 rfl (by decide) u5 k xs (by simp [Act.eval]) (by repeat (with_reducible first | exact hRB2 | refine own4_drew ?_ | refine own4_alloc _ ?_)) ⟨_, 0, none⟩ 1 1 [.int .i64 p.k, .int .i64 p.d, .int .i64 p.n, .int .u8 (p.b : Int)] (by first | (simp [Act.eval]; done) | (simp [Act.eval]; rfl)) rfl (pt_news (t := 73) (by repeat (with_reducible first | exact hNB | refine blk4_drew ?_ | refine blk4_alloc ?_))) (pt_one _ _ _ _) (by decide) hm1 hm2 (Nat.zero_le _) _ rfl ?_
            intro gb pb wb hrb hbb hgb hlb
            have hSB : Since wr u4 u5 wb := Since.appB (by repeat (with_reducible first | exact hSA | refine Since.drew ?_ | refine Since.alloc _ ?_)) hbb
            have hra2 : wb.ownsRow 0 74 4 (.slice (some ⟨ga, 0, none⟩) (k + 1) pa) (k + 1) (xs ++ [.int .i64 p.k, .int .i64 p.d, .int .i64 p.n, .int .u8 (p.b : Int)]) := own4_kept (by repeat (with_reducible first | exact hra | refine own4_drew ?_ | refine own4_alloc _ ?_)) hbb (own4_ne (by repeat (with_reducible first | exact hra | refine own4_drew ?_ | refine own4_alloc _ ?_)) (by repeat (with_reducible first | exact hRB2 | refine own4_drew ?_ | refine own4_alloc _ ?_)) (by decide))
            have hgb2 : w.heap.size ≤ gb := by rcases hgb with e | e; (exact HT.out.ownB _ e); ((try simp at e); have h1 := HBW.out.size; have h2 := hSA.size; omega)
            refine hK.out _ _ (HC.out _ (by repeat (with_reducible first | exact hSB | refine Since.drew ?_ | refine Since.alloc _ ?_))) (fun hHeld => ?_)
            clear hK K
            try simp only [Act.put]
            try simp only [List.setIfInBounds_toArray]
            try simp only [List.set]
            refine Tail.head_done rfl ?_
            refine wpAny_ready (rs := [14]) (by kernel_rfl) (by simp) ?_
            refine AllReady.cons rfl (fun K hK => ?_) AllReady.nil
            go_simp
            refine hK _ _ ?_
            clear hK K
            try simp only [Act.put]
            try simp only [List.setIfInBounds_toArray]
            try simp only [List.set]
            refine wpAny_ready (rs := [15]) (by kernel_rfl) (by simp) ?_
            refine AllReady.cons rfl (fun K hK => ?_) AllReady.nil
            go_simp
            refine hK _ _ ?_
            clear hK K
            try simp only [Act.put]
            try simp only [List.setIfInBounds_toArray]
            try simp only [List.set]
            refine wpAny_done (by kernel_rfl) ?_ _
            have HEND := Lib.hid (told_end HT.out HTF.out (by omega) (both_of HBW.out HT.out.ownA HT.out.ownB hSB hra2 hrb hga2 hgb2))
            go_wp2_with fail
            go_roundw
            case rel => exact ⟨k + 1, by omega, by go_num, HEND.out⟩
            case measure => simp [intOf]; omega
        refine Tail.AllHead.cons rfl (fun K hK => ?_) Tail.AllHead.nil
        focus
          go_simp
          refine hK.out _ _ (HC.out _ (by repeat (with_reducible first | exact HS0.out | refine Since.drew ?_ | refine Since.alloc _ ?_))) (fun hHeld => ?_)
          clear hK K
          try simp only [Act.put]
          try simp only [List.setIfInBounds_toArray]
          try simp only [List.set]
          refine Tail.head_ready (rs := [5]) (by kernel_rfl) (by simp) (by kernel_rfl) ?_
          refine Tail.AllHead.cons rfl (fun K hK => ?_) Tail.AllHead.nil
          go_simp
          refine hK.out _ _ (HC.out _ (by repeat (with_reducible first | exact HS0.out | refine Since.drew ?_ | refine Since.alloc _ ?_))) (fun hHeld => ?_)
          clear hK K
          try simp only [Act.put]
          try simp only [List.setIfInBounds_toArray]
          try simp only [List.set]
          refine Tail.head_ready (rs := [6]) (by kernel_rfl) (by simp) (by kernel_rfl) ?_
          refine Tail.AllHead.cons rfl (fun K hK => ?_) Tail.AllHead.nil
          refine step_append_lies _ rfl (.tmp 17) (.tmp 22) 61 rfl 0 74 i0 (.agg #[.int .i64 0, .int .i64 0, .int .i64 0, .int .u8 0]) 4 32 Try.underlying61 hi hz0 hz1 hz2 rfl (by decide) u4 k xs (by simp [Act.eval]) (by repeat (with_reducible first | exact HRA.out | refine own4_drew ?_ | refine own4_alloc _ ?_)) ⟨_, 0, none⟩ 1 1 [.int .i64 p.k, .int .i64 p.d, .int .i64 p.n, .int .u8 (p.b : Int)] (by first | (simp [Act.eval]; done) | (simp [Act.eval]; rfl)) rfl (pt_news (t := 74) (by repeat (with_reducible first | exact blk4_here (by simp) | refine blk4_drew ?_ | refine blk4_alloc ?_))) (pt_one _ _ _ _) (by decide) hm1 hm2 (Nat.zero_le _) _ rfl ?_
          intro ga pa wa hra hba hga hla
          have hSA : Since wr u4 u5 wa := Since.appA (by repeat (with_reducible first | exact HS0.out | refine Since.drew ?_ | refine Since.alloc _ ?_)) hba
          have hRB2 : wa.ownsRow 0 73 4 u5 k xs := own4_kept (by repeat (with_reducible first | exact HRB.out | refine own4_drew ?_ | refine own4_alloc _ ?_)) hba HBA.out
          have hga2 : w.heap.size ≤ ga := by rcases hga with e | e; (exact HT.out.ownA _ e); ((try simp at e); have h1 := HBW.out.size; omega)
          have hNB : wa.heap[wr.heap.size]? = some (.cells #[.int .i64 p.k, .int .i64 p.d, .int .i64 p.n, .int .u8 (p.b : Int)] 73 (0, 0)) := blk4_grown hba HVA.out (by omega) (by repeat (with_reducible first | exact blk4_here (by simp) | refine blk4_drew ?_ | refine blk4_alloc ?_))
          refine hK.out _ _ (HC.out _ (by repeat (with_reducible first | exact hSA | refine Since.drew ?_ | refine Since.alloc _ ?_))) (fun hHeld => ?_)
          clear hK K
          try simp only [Act.put]
          try simp only [List.setIfInBounds_toArray]
          try simp only [List.set]
          refine Tail.head_ready (rs := [13]) (by kernel_rfl) (by simp) (by kernel_rfl) ?_
          refine Tail.AllHead.cons rfl (fun K hK => ?_) Tail.AllHead.nil
          refine step_append_lies _ rfl (.tmp 24) (.tmp 29) 62 rfl 0 73 j0 (.agg #[.int .i64 0, .int .i64 0, .int .i64 0, .int .u8 0]) 4 32 Try.underlying62 hj hy0 hy1 hy2 rfl (by decide) u5 k xs (by simp [Act.eval]) (by repeat (with_reducible first | exact hRB2 | refine own4_drew ?_ | refine own4_alloc _ ?_)) ⟨_, 0, none⟩ 1 1 [.int .i64 p.k, .int .i64 p.d, .int .i64 p.n, .int .u8 (p.b : Int)] (by first | (simp [Act.eval]; done) | (simp [Act.eval]; rfl)) rfl (pt_news (t := 73) (by repeat (with_reducible first | exact hNB | refine blk4_drew ?_ | refine blk4_alloc ?_))) (pt_one _ _ _ _) (by decide) hm1 hm2 (Nat.zero_le _) _ rfl ?_
          intro gb pb wb hrb hbb hgb hlb
          have hSB : Since wr u4 u5 wb := Since.appB (by repeat (with_reducible first | exact hSA | refine Since.drew ?_ | refine Since.alloc _ ?_)) hbb
          have hra2 : wb.ownsRow 0 74 4 (.slice (some ⟨ga, 0, none⟩) (k + 1) pa) (k + 1) (xs ++ [.int .i64 p.k, .int .i64 p.d, .int .i64 p.n, .int .u8 (p.b : Int)]) := own4_kept (by repeat (with_reducible first | exact hra | refine own4_drew ?_ | refine own4_alloc _ ?_)) hbb (own4_ne (by repeat (with_reducible first | exact hra | refine own4_drew ?_ | refine own4_alloc _ ?_)) (by repeat (with_reducible first | exact hRB2 | refine own4_drew ?_ | refine own4_alloc _ ?_)) (by decide))
          have hgb2 : w.heap.size ≤ gb := by rcases hgb with e | e; (exact HT.out.ownB _ e); ((try simp at e); have h1 := HBW.out.size; have h2 := hSA.size; omega)
          refine hK.out _ _ (HC.out _ (by repeat (with_reducible first | exact hSB | refine Since.drew ?_ | refine Since.alloc _ ?_))) (fun hHeld => ?_)
          clear hK K
          try simp only [Act.put]
          try simp only [List.setIfInBounds_toArray]
          try simp only [List.set]
          refine Tail.head_done rfl ?_
          refine wpAny_ready (rs := [14]) (by kernel_rfl) (by simp) ?_
          refine AllReady.cons rfl (fun K hK => ?_) AllReady.nil
          go_simp
          refine hK _ _ ?_
          clear hK K
          try simp only [Act.put]
          try simp only [List.setIfInBounds_toArray]
          try simp only [List.set]
          refine wpAny_ready (rs := [15]) (by kernel_rfl) (by simp) ?_
          refine AllReady.cons rfl (fun K hK => ?_) AllReady.nil
          go_simp
          refine hK _ _ ?_
          clear hK K
          try simp only [Act.put]
          try simp only [List.setIfInBounds_toArray]
          try simp only [List.set]
          refine wpAny_done (by kernel_rfl) ?_ _
          have HEND := Lib.hid (told_end HT.out HTF.out (by omega) (both_of HBW.out HT.out.ownA HT.out.ownB hSB hra2 hrb hga2 hgb2))
          go_wp2_with fail
          go_roundw
          case rel => exact ⟨k + 1, by omega, by go_num, HEND.out⟩
          case measure => simp [intOf]; omega
        -- END app
    · as_aux_lemma =>
      obtain rfl : k = ps.length := by omega
      rw [List.take_length] at hT
      have HT := Lib.hid hT
      have key : (ps.length < len ∧ ¬ ps.length < 60) ∨ ¬ ps.length < len := by have := HPS.out; omega
      clear hT hlt
      rcases key with ⟨h1, h2⟩ | h1
      · go_wp2_with fail
        go_ret2
        exact ⟨_, _, rfl, HT.out⟩
      · go_wp2_with fail
        go_ret2
        exact ⟨_, _, rfl, HT.out⟩
end Go.Proofs.Ythejbnodalnnpaa.Pk
