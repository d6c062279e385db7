/-
  The reference of layer 6: contract of Apply.
-/
import Derived.Test.YthejbnodalnnpaaPackBackAll
import Derived.Test.YthejbnodalnnpaaPackTold
import Derived.Test.YthejbnodalnnpaaRcEncD
namespace Go.Proofs.Ythejbnodalnnpaa.Pk
open Go.RowKit
open Wnd (copied copied_length)
open Rc (byte Row)
theorem row_not {w : World} {e t : TypeId} {v : Value} {n X size : Nat} {xs : List Value} {ds : Array Value} (h : w.ownsRow 0 e size v n xs) (hc : w.heap[X]? = some (.cells ds t (0, 0))) (ht : t ≠ e) : v.ownBlock ≠ some X := by
  intro hk
  rcases h.2 with ⟨e1, _⟩ | ⟨g', cap', cur, e1, _, hg, _⟩
  · rw [e1] at hk; simp [Value.ownBlock] at hk
  · rw [e1] at hk
    simp [Value.ownBlock] at hk
    subst hk
    rw [hg] at hc
    simp only [Option.some.injEq, Obj.cells.injEq] at hc
    exact ht hc.2.1.symm
theorem row_slice {w : World} {v : Value} {l : List UInt8} (h : Row w v l) : ∃ A c, v = .slice A l.length c := by
  rcases h.2 with ⟨e1, e2⟩ | ⟨g, p, cur, e1, _⟩
  · exact ⟨none, 0, by rw [e1, e2]⟩
  · exact ⟨_, p, e1⟩
/-- The reference's text and last distances. -/
structure RAt (W0 w : World) (v : Value) (l : List UInt8) (R : Nat) (r : Rp) : Prop where
  row : Row w v l
  reps : w.heap[R]? = some (.cells #[.int .i64 r.a, .int .i64 r.b, .int .i64 r.c, .int .i64 r.d] 77 (0, 0))
  below : Below W0.heap.size W0 w
  own : ∀ k, v.ownBlock = some k → W0.heap.size ≤ k
  hR : W0.heap.size ≤ R
theorem RAt.news {W0 w w' : World} {v : Value} {l : List UInt8} {R : Nat} {r : Rp} (h : RAt W0 w v l R r) (hb : Below w.heap.size w w') : RAt W0 w' v l R r :=
  ⟨h.row.below hb (fun k hk => ownsRow_lt h.row k hk), (hb.block R (lt_of_heap h.reps)).trans h.reps, h.below.trans (hb.mono h.below.size), h.own, h.hR⟩
theorem RAt.app {W0 w w' : World} {v v' : Value} {l : List UInt8} {R n : Nat} {r : Rp} {o : Obj} {x : UInt8} (h : RAt W0 w v l R r) (hn : l.length = n) (hown : w'.ownsRow 0 5 1 v' (n + 1) (l.map byte ++ [byte x])) (hg : (w.alloc o).grownBy w' v.ownBlock) (hm : Moved (w.alloc o) v v') : RAt W0 w' v' (l ++ [x]) R r := by
  have hno := row_not h.row h.reps (by decide)
  refine ⟨?_, ?_, ?_, ?_, h.hR⟩
  · unfold Row
    rw [List.length_append, List.map_append, hn]
    exact hown
  · have hb := hg.block R (by rw [World.size_alloc]; have := lt_of_heap h.reps; omega) (fun e => hno e.symm)
    rw [Below.heap_alloc w o R (lt_of_heap h.reps), h.reps] at hb
    exact hb
  · exact h.below.trans ((((Frame.refl (fun k => v.ownBlock = some k) w).alloc o).grown hg (fun k hk => .inl hk)).below h.below.size (fun k hk ho => by have := h.own k ho; omega))
  · intro k hk
    rcases hm with e | e
    · rw [e] at hk; exact h.own k hk
    · have h1 := e k hk
      rw [World.size_alloc] at h1
      have := h.below.size
      omega
theorem RAt.set {W0 w : World} {v : Value} {l : List UInt8} {R : Nat} {r : Rp} (h : RAt W0 w v l R r) (s : Rp) : RAt W0 ((((w.setCell ⟨R, 0, none⟩ (.int .i64 s.a)).setCell ⟨R, 1, none⟩ (.int .i64 s.b)).setCell ⟨R, 2, none⟩ (.int .i64 s.c)).setCell ⟨R, 3, none⟩ (.int .i64 s.d)) v l R s := by
  have hno := row_not h.row h.reps (by decide)
  exact ⟨h.row.frame (four_frame w R _ _ _ _) (fun k hk e => hno (by rw [hk, e])), four_heap h.reps _ _ _ _, below_four h.below h.hR _ _ _ _, h.own, h.hR⟩
theorem conv_row {w : World} {A : Option Addr} {c : Nat} {l : List UInt8} (h : Row w (.slice A l.length c) l) : (convert 26 9 (.slice A l.length c)).run Try.prog w = .ok (.string ⟨l.toArray⟩) w := by
  rcases h.2 with ⟨e1, e2⟩ | ⟨g, p, cur, e1, _⟩
  · have hl := List.eq_nil_of_length_eq_zero e2
    subst hl
    simp only [Value.slice.injEq] at e1
    obtain ⟨rfl, _, rfl⟩ := e1
    exact run_convert_bytes_nil w 26 5 Try.underlying26 Try.underlying5 0 0 9 Try.underlying9
  · simp only [Value.slice.injEq, true_and] at e1
    obtain ⟨rfl, rfl⟩ := e1
    have hh : Held w (fun _ => 0) 0 5 (.slice (some ⟨g, 0, none⟩) l.length c) (l.map byte) := ⟨by rw [List.length_map]; exact h, fun _ _ => rfl⟩
    exact hh.text rfl
theorem byte_of {b : Nat} (h : b < 256) : Value.int .u8 (b : Int) = byte (UInt8.ofNat b) := by
  unfold byte
  simp
  omega
theorem info8 : (Try.prog.info? 5).map (fun i => (i.zero, i.size, i.bytes)) = some (some (.int .u8 0), 1, 1) := by kernel_rfl
theorem b_one (b : Int) : ∀ u ∈ [Value.int .u8 b], u.oneCell' = true := by intro u hu; simp at hu; subst hu; rfl
theorem b_new (w : World) (b : Value) : ∀ j u, [b][j]? = some u → (w.alloc (.cells #[b] 5)).cell? ((⟨w.heap.size, 0, none⟩ : Addr).add j) = some u := World.news_of_block (heap_alloc_new _ _)
theorem blk_grown {w w' : World} {v : Value} {X : Nat} {o o' : Obj} (h : w.heap[X]? = some o') (hg : (w.alloc o).grownBy w' v.ownBlock) (hn : v.ownBlock ≠ some X) : w'.heap[X]? = some o' := by
  have hb := hg.block X (by rw [World.size_alloc]; have := lt_of_heap h; omega) (fun e => hn e.symm)
  rw [Below.heap_alloc w o X (lt_of_heap h), h] at hb
  exact hb
def RAp (W : World) (R most : Nat) (ps : List Pt) (k : Nat) (v : Value) (w : World) : Prop := ∃ l r, RAt W w v l R r ∧ l.length ≤ k * 273 ∧ l.length ≤ most ∧ r.pos ∧ applyL most (ps.drop k) l r = applyL most ps [] ⟨1, 1, 1, 1⟩
def ApplyTo (W : World) (x : List UInt8 × Nat) (e : Ending) (w' : World) : Prop := e = .returned (.tuple #[.string ⟨x.1.toArray⟩, .int .i64 (x.2 : Int)]) ∧ Below W.heap.size W w'
set_option maxRecDepth 100000 in
set_option maxHeartbeats 8000000 in
theorem rapply_any {W : World} {a : Option Addr} {ps : List Pt} (h : IsPts W a ps) (hl : ps.length ≤ 1000) (cap : Nat) (m : Int) (hm : m ≤ 9223372036854775807) :
    Calls Try.prog 37 #[.slice a ps.length cap, .int .i64 m] W (ApplyTo W (applyL m.toNat ps [] ⟨1, 1, 1, 1⟩)) := by
  obtain ⟨most, hmost⟩ : ∃ k : Nat, k = m.toNat := ⟨_, rfl⟩
  rw [← hmost]
  have HM := Lib.hid hmost
  have hmm : most ≤ 9223372036854775807 := by omega
  have HIP := Lib.hid h
  clear h hmost
  go_enter Try.func37, Try.ntmps37
  go_upto_if 16 with (fail)
  go_cut [1] (fun c1 wc => c1 = .int .i64 (most : Int) ∧ wc = W)
  case first =>
    as_aux_lemma =>
    by_cases hneg : m < 0
    · go_wp2_with fail
      go_meet
      exact ⟨by have : most = 0 := by have := HM.out; omega
                rw [this]; rfl, rfl⟩
    · go_wp2_with fail
      go_meet
      exact ⟨by have : m = (most : Int) := by have := HM.out; omega
                rw [this], rfl⟩
  case rest =>
    obtain ⟨rfl, rfl⟩ := hcut
    go_wp2_with fail
    have HR0 : Hid (RAp wc wc.heap.size most ps 0 (.slice none 0 0) (wc.alloc (.cells #[.int .i64 1, .int .i64 1, .int .i64 1, .int .i64 1] 77))) := Lib.hid ⟨[], ⟨1, 1, 1, 1⟩, ⟨World.ownsRow_nil _ _ _ _, heap_alloc_new _ _, (Below.refl _ _).alloc (Nat.le_refl _) _, by simp [Value.ownBlock], Nat.le_refl _⟩, by simp, by simp, by unfold Rp.pos; simp, rfl⟩
    generalize wc.alloc (.cells #[.int .i64 1, .int .i64 1, .int .i64 1, .int .i64 1] 77) = W3 at *
    generalize hRe : wc.heap.size = R at *
    clear hRe
    go_loopw [7, 8] (fun v i wr => ∃ k : Nat, k ≤ ps.length ∧ i = .int .i64 k ∧ RAp wc R most ps k v wr) (fun _ i _ => ps.length - (intOf i).toNat)
    case atStart => exact ⟨0, by omega, rfl, HR0.out⟩
    case round =>
      clear HR0
      obtain ⟨k, hk, rfl, l, r, hL, hlk, hlm, hpos, hres⟩ := hrel
      have HRES := Lib.hid hres
      clear hres
      by_cases hlt : k < ps.length
      · rcases HIP.out with he | ⟨b, off, rfl, hc⟩
        · rw [he] at hlt; simp at hlt
        · have hpt := (hc k hlt).below hL.below
          have HD := Lib.hid (List.drop_eq_getElem_cons hlt)
          rw [HD.out] at HRES
          clear HD hc
          generalize ps[k] = p at *
          obtain ⟨c0, c1, c2, c3, hpb⟩ := hpt
          obtain ⟨A7, q7, hv7⟩ := row_slice hL.row
          subst hv7
          have HL := Lib.hid hL
          clear hL
          obtain ⟨i0, hi, hz0, hz1, hz2⟩ := info_parts info8
          have HI := Lib.hid hi
          have HZ0 := Lib.hid hz0
          have HZ1 := Lib.hid hz1
          have HZ2 := Lib.hid hz2
          clear hi hz0 hz1 hz2
          go_upto_region 9 with (fail)
          have HP9 := Lib.hid (heap_alloc_new wr (.cells #[.int .i64 p.k, .int .i64 p.d, .int .i64 p.n, .int .u8 (p.b : Int)] 73))
          have HL9 := Lib.hid (HL.out.news ((Below.refl _ wr).alloc (Nat.le_refl _) (.cells #[.int .i64 p.k, .int .i64 p.d, .int .i64 p.n, .int .u8 (p.b : Int)] 73)))
          clear HL c0 c1 c2 c3
          generalize wr.alloc (.cells #[.int .i64 p.k, .int .i64 p.d, .int .i64 p.n, .int .u8 (p.b : Int)] 73) = W9 at *
          generalize wr.heap.size = P at *
          obtain ⟨⟨p0, p1, p2, p3⟩, _, hPl⟩ := four HP9.out
          by_cases hk1 : p.k = 1
          · as_aux_lemma =>
            -- BEGIN lit
            have e1 : (p.k == 1) = true := by simpa using hk1
            by_cases hd : p.d = 0 ∧ p.n = 0
            · obtain ⟨hd0, hn0⟩ := hd
              have e2 : (p.d != 0) = false := by simpa using hd0
              have e3 : (p.n != 0) = false := by simpa using hn0
              have hpl : p.plain = true := by simp [Pt.plain, hk1, hd0, hn0]
              have hf : p.fit (l.length : Int) r = some (0, 1, r) := by
                unfold Pt.fit
                rw [hpl, if_neg (by simp), if_pos hk1]
              by_cases hfull : most ≤ l.length
              · have HE := Lib.hid (show ([], 11) = applyL most ps [] ⟨1, 1, 1, 1⟩ by rw [← HRES.out, applyL_long hf (by unfold Pt.tell; rw [if_pos hk1, if_neg (by omega)])])
                clear HRES hf hpl hd0 hn0 hk1
                go_wp2_with fail
                go_ret2
                exact ⟨by rw [← HE.out]; rfl, HL9.out.below⟩
              · have HE := Lib.hid (show applyL most (ps.drop (k + 1)) (l ++ [UInt8.ofNat p.b]) r = applyL most ps [] ⟨1, 1, 1, 1⟩ by rw [← HRES.out]; exact (applyL_more hf (by unfold Pt.tell; rw [if_pos hk1, if_pos (by omega)])).symm)
                have HBY := Lib.hid (byte_of hpb)
                have hm1 : l.length + 1 ≤ maxLen := by unfold maxLen; omega
                have hm2 : (l.length + 1) * 1 ≤ 140737488355328 := by omega
                have hfull2 : l.length < most := by omega
                have HROW : Hid (W9.ownsRow 0 5 1 (.slice A7 l.length q7) l.length (l.map byte)) := Lib.hid HL9.out.row
                clear HRES hf hpl hd0 hn0 hk1 hfull
                go_wp2_with (at_builtin; refine wpList_append_one _ rfl _ _ 26 rfl 5 i0 (.int .u8 0) 1 1 Try.underlying26 HI.out HZ0.out HZ1.out HZ2.out rfl (by decide) (.slice A7 l.length q7) l.length _ rfl (HROW.out.alloc _) ⟨W9.heap.size, 0, none⟩ 1 [.int .u8 (p.b : Int)] rfl rfl (b_new _ _) (b_one _) hm1 hm2 ?_; intro g9 cap9 w10 hown10 hgr10 hmv10; rw [HBY.out] at hown10; have HTT := Lib.hid (HL9.out.app rfl hown10 hgr10 hmv10); clear hown10 hgr10 hmv10)
                go_roundw
                case rel => exact ⟨k + 1, by omega, by go_num, _, r, HTT.out, by simp; omega, by simp; omega, hpos, HE.out⟩
                case measure => simp [intOf]; omega
            · have hf : p.fit (l.length : Int) r = none := by
                have hpl : p.plain = false := by simp [Pt.plain, hk1]; simpa using hd
                unfold Pt.fit
                rw [hpl, if_pos rfl]
              have HE := Lib.hid (show ([], 6) = applyL most ps [] ⟨1, 1, 1, 1⟩ by rw [← HRES.out, applyL_none hf])
              clear HRES hf
              by_cases hd0 : p.d = 0
              · have e2 : (p.d != 0) = false := by simpa using hd0
                have e3 : (p.n != 0) = true := by simp; intro h; exact hd ⟨hd0, h⟩
                clear hd hd0 hk1
                go_wp2_with fail
                go_ret2
                exact ⟨by rw [← HE.out]; rfl, HL9.out.below⟩
              · have e2 : (p.d != 0) = true := by simpa using hd0
                clear hd hd0 hk1
                go_wp2_with fail
                go_ret2
                exact ⟨by rw [← HE.out]; rfl, HL9.out.below⟩
            -- END lit
          · as_aux_lemma =>
            -- BEGIN copy
            have e1 : (p.k == 1) = false := by simpa using hk1
            obtain ⟨⟨r0, r1, r2, r3⟩, _, hRl⟩ := four HL9.out.reps
            have HB := Lib.hid (back_fit p (l.length : Int) r W9 hk1)
            go_wp2_with fail
            refine HB.out.mono ?_
            rintro x w10 ⟨d, n, s, ⟨rfl, hb10⟩, hd⟩
            have HD := Lib.hid hd
            have HL10 := Lib.hid (HL9.out.news hb10)
            clear hb10 hd HB HL9 HP9 p0 p1 p2 p3 hPl r0 r1 r2 r3 hRl
            go_upto_region 16 with (fail)
            have HQ := Lib.hid (heap_alloc_new w10 (.cells #[.int .i64 s.a, .int .i64 s.b, .int .i64 s.c, .int .i64 s.d] 77))
            have HL11 := Lib.hid (HL10.out.news ((Below.refl _ w10).alloc (Nat.le_refl _) (.cells #[.int .i64 s.a, .int .i64 s.b, .int .i64 s.c, .int .i64 s.d] 77)))
            have hQR : w10.heap.size ≠ R := by have := lt_of_heap HL10.out.reps; omega
            clear HL10
            generalize w10.alloc (.cells #[.int .i64 s.a, .int .i64 s.b, .int .i64 s.c, .int .i64 s.d] 77) = W11 at *
            generalize w10.heap.size = Q at *
            cases hq : p.fit (l.length : Int) r with
            | none =>
              have HE := Lib.hid (show ([], 6) = applyL most ps [] ⟨1, 1, 1, 1⟩ by rw [← HRES.out, applyL_none hq])
              clear HRES hq HD
              simp only [Option.isSome_none]
              go_wp2_with fail
              go_ret2
              exact ⟨by rw [← HE.out]; rfl, HL11.out.below⟩
            | some y =>
              obtain rfl := HD.out y hq
              simp only [Option.isSome_some]
              obtain ⟨hsp, hfs⟩ := fit_some hq hpos
              have hfs2 : 1 ≤ d ∧ d ≤ l.length ∧ 1 ≤ n ∧ n ≤ 273 := by rcases hfs with ⟨a, _⟩ | ⟨_, a⟩; exact absurd a hk1; exact a
              clear hfs HD
              obtain ⟨dd, rfl⟩ := Int.eq_ofNat_of_zero_le (show 0 ≤ d by omega)
              obtain ⟨nn, rfl⟩ := Int.eq_ofNat_of_zero_le (show 0 ≤ n by omega)
              have hd1 : 1 ≤ dd := by omega
              have hd2 : dd ≤ l.length := by omega
              have hn2 : nn ≤ 273 := by omega
              clear hfs2
              by_cases hroom : l.length + nn ≤ most
              · have HE := Lib.hid (show applyL most (ps.drop (k + 1)) (copied l dd nn) s = applyL most ps [] ⟨1, 1, 1, 1⟩ by rw [← HRES.out]; exact (applyL_more hq (by unfold Pt.tell; rw [if_neg hk1, if_pos (by simpa using hroom)]; simp)).symm)
                have dr : decide ((most : Int) - (l.length : Int) < (nn : Int)) = false := by rw [decide_eq_false_iff_not]; omega
                have HSP := Lib.hid hsp
                have hlm2 : most < 9223372036854775808 := by omega
                clear HRES hq hk1 hsp
                go_upto_region 20 with (fail)
                clear dr
                go_wp2_with fail
                go_loopw [7, 14] (fun v i wq => ∃ j : Nat, j ≤ nn ∧ i = .int .i64 j ∧ RAt wc wq v (copied l dd j) R r ∧ wq.heap[Q]? = some (.cells #[.int .i64 s.a, .int .i64 s.b, .int .i64 s.c, .int .i64 s.d] 77 (0, 0))) (fun _ i _ => nn - (intOf i).toNat)
                case atStart => exact ⟨0, by omega, rfl, HL11.out, HQ.out⟩
                case round =>
                  clear HL11 HQ
                  obtain ⟨j, hj, rfl, hL, hQ⟩ := hrel
                  have hCl := copied_length l dd j
                  by_cases hjn : j < nn
                  · as_aux_lemma =>
                    obtain ⟨g, cg, hv⟩ := hL.row.form (by omega)
                    subst hv
                    have hlt2 : (copied l dd j).length - dd < (copied l dd j).length := by omega
                    have HST := Lib.hid (show copied l dd (j + 1) = copied l dd j ++ [(copied l dd j)[(copied l dd j).length - dd]] by simp [copied, List.getD, hlt2])
                    have hcell := hL.row.cell ((copied l dd j).length - dd) hlt2
                    have HL := Lib.hid hL
                    have HQ := Lib.hid hQ
                    have HCL := Lib.hid hCl
                    have hc1 : (copied l dd j).length ≤ l.length + j := by omega
                    have hc2 : l.length + j ≤ (copied l dd j).length := by omega
                    clear hL hQ hCl
                    generalize copied l dd j = C at *
                    have hx := UInt8.toNat_lt (C[C.length - dd])
                    unfold byte at hcell
                    have HROW : Hid (wr.ownsRow 0 5 1 (.slice (some ⟨g, 0, none⟩) C.length cg) C.length (C.map byte)) := Lib.hid HL.out.row
                    have HBT := Lib.hid (show Value.int .u8 ((C[C.length - dd]).toNat : Int) = byte (C[C.length - dd]) from rfl)
                    generalize C[C.length - dd] = cx at *
                    have e3 : ((C.length : Int) - (dd : Int)).toNat = C.length - dd := by omega
                    have e4 : (0 : Int) ≤ (C.length : Int) - (dd : Int) := by omega
                    have e5 : (C.length : Int) - (dd : Int) < (C.length : Int) := by omega
                    have hm1 : C.length + 1 ≤ maxLen := by unfold maxLen; omega
                    have hm2 : (C.length + 1) * 1 ≤ 140737488355328 := by omega
                    go_wp2_with (at_builtin; refine wpList_append_one _ rfl _ _ 26 rfl 5 i0 (.int .u8 0) 1 1 Try.underlying26 HI.out HZ0.out HZ1.out HZ2.out rfl (by decide) (.slice (some ⟨g, 0, none⟩) C.length cg) C.length _ rfl (HROW.out.alloc _) ⟨wr.heap.size, 0, none⟩ 1 [.int .u8 (cx.toNat : Int)] rfl rfl (b_new _ _) (b_one _) hm1 hm2 ?_; intro g9 cap9 w12 hown12 hgr12 hmv12; have HQ2 := Lib.hid (blk_grown HQ.out hgr12 (row_not HROW.out HQ.out (by decide))); rw [HBT.out] at hown12; have HTT := Lib.hid (HL.out.app rfl hown12 hgr12 hmv12); clear hown12 hgr12 hmv12)
                    go_roundw
                    case rel => exact ⟨j + 1, by omega, by go_num, by rw [HST.out]; exact HTT.out, HQ2.out⟩
                    case measure => simp [intOf]; omega
                  · as_aux_lemma =>
                    obtain rfl : j = nn := by omega
                    obtain ⟨⟨s0, s1, s2, s3⟩, _, _⟩ := four hQ
                    obtain ⟨⟨r0, r1, r2, r3⟩, ⟨g0, g1, g2, g3⟩, hRl⟩ := four hL.reps
                    have HEND := Lib.hid (hL.set s)
                    have hcl1 : (copied l dd j).length ≤ (k + 1) * 273 := by rw [hCl]; omega
                    have hcl2 : (copied l dd j).length ≤ most := by rw [hCl]; omega
                    clear hL hQ hCl
                    go_wp2_with fail
                    go_roundw
                    case rel => exact ⟨k + 1, by omega, by go_num, _, s, HEND.out, hcl1, hcl2, HSP.out, HE.out⟩
                    case measure => simp [intOf]; omega
              · have HE := Lib.hid (show ([], 11) = applyL most ps [] ⟨1, 1, 1, 1⟩ by rw [← HRES.out, applyL_long hq (by unfold Pt.tell; rw [if_neg hk1, if_neg (by simpa using hroom)])])
                have dr : decide ((most : Int) - (l.length : Int) < (nn : Int)) = true := by rw [decide_eq_true_iff]; omega
                have hlm2 : most < 9223372036854775808 := by omega
                clear HRES hq hk1 hsp
                go_wp2_with fail
                go_ret2
                exact ⟨by rw [← HE.out]; rfl, HL11.out.below⟩
            -- END copy
      · obtain rfl : k = ps.length := by omega
        rw [List.drop_length] at HRES
        have HE := Lib.hid (show (l, 0) = applyL most ps [] ⟨1, 1, 1, 1⟩ from HRES.out)
        obtain ⟨A7, q7, hv7⟩ := row_slice hL.row
        subst hv7
        have hcv := conv_row hL.row
        have HL := Lib.hid hL
        clear HRES hL
        generalize hLL : (⟨l.toArray⟩ : ByteArray) = LL at *
        have HLL := Lib.hid hLL
        clear hLL
        go_wp2_with fail
        go_ret2
        exact ⟨by rw [← HE.out, ← HLL.out]; rfl, HL.out.below⟩
end Go.Proofs.Ythejbnodalnnpaa.Pk
