/-
  The reference of layer 6: contract of Repeat.
-/
import Derived.Test.YthdjnbhdgacmgaaPackTold
import Derived.Test.YthdjnbhdgacmgaaPackRepMath
namespace Go.Proofs.Ythdjnbhdgacmgaa.Pk
open Go.RowKit
theorem row4_not {w : World} {e t : TypeId} {v : Value} {n X size : Nat} {xs : List Value} {ds : Array Value} (h : w.ownsRow 0 e size v n xs) (hc : w.heap[X]? = some (.cells ds t (0, 0))) (ht : t ≠ e) : v.ownBlock ≠ some X := by
  intro hk
  rcases h.2 with ⟨e1, _⟩ | ⟨g', cap', cur, e1, _, hg, _⟩
  · rw [e1] at hk; simp [Value.ownBlock] at hk
  · rw [e1] at hk
    simp [Value.ownBlock] at hk
    subst hk
    rw [hg] at hc
    simp only [Option.some.injEq, Obj.cells.injEq] at hc
    exact ht hc.2.1.symm
/-- Which place has the distance, of those above i. -/
def atv (r : Rp) (d i : Int) : Int := if i ≤ -1 ∧ r.a = d then 0 else if i ≤ 0 ∧ r.b = d then 1 else if i ≤ 1 ∧ r.c = d then 2 else if i ≤ 2 ∧ r.d = d then 3 else -1
theorem atv_top (r : Rp) (d : Int) : atv r d 3 = -1 := by simp [atv]
theorem atv_step (r : Rp) (d i : Int) (h0 : 0 ≤ i) (h3 : i ≤ 3) : atv r d (i - 1) = if r.at i = d then i else atv r d i := by
  have : i = 0 ∨ i = 1 ∨ i = 2 ∨ i = 3 := by omega
  rcases this with rfl | rfl | rfl | rfl
  · by_cases h : r.a = d <;> simp [atv, Rp.at, h]
  · by_cases h : r.b = d <;> simp [atv, Rp.at, h]
  · by_cases h : r.c = d <;> simp [atv, Rp.at, h]
  · by_cases h : r.d = d <;> simp [atv, Rp.at, h]
theorem atv_find (r : Rp) (d : Int) : atv r d (-1) = if (r.find d).2 then (r.find d).1 else -1 := by
  unfold atv Rp.find
  by_cases h0 : r.a = d
  · simp [h0]
  · by_cases h1 : r.b = d
    · simp [h0, h1]
    · by_cases h2 : r.c = d
      · simp [h0, h1, h2]
      · by_cases h3 : r.d = d <;> simp [h0, h1, h2, h3]
/-- What the reference's Repeat has. -/
structure RRep (W0 w : World) (v : Value) (out : List Pt) (R Q : Nat) (r old : Rp) : Prop where
  row : PtsT 51 w v out
  hr : w.heap[R]? = some (.cells #[.int .i64 r.a, .int .i64 r.b, .int .i64 r.c, .int .i64 r.d] 68 (0, 0))
  hq : w.heap[Q]? = some (.cells #[.int .i64 old.a, .int .i64 old.b, .int .i64 old.c, .int .i64 old.d] 68 (0, 0))
  below : Below W0.heap.size W0 w
  own : ∀ k, v.ownBlock = some k → W0.heap.size ≤ k
  hR : W0.heap.size ≤ R
  hQ : W0.heap.size ≤ Q
  ne : R ≠ Q
section
variable {W0 w w' : World} {v v' : Value} {out : List Pt} {R Q : Nat} {r old s : Rp}
theorem RRep.news (h : RRep W0 w v out R Q r old) (hb : Below w.heap.size w w') : RRep W0 w' v out R Q r old :=
  ⟨h.row.below hb, (hb.block R (lt_of_heap h.hr)).trans h.hr, (hb.block Q (lt_of_heap h.hq)).trans h.hq, h.below.trans (hb.mono h.below.size), h.own, h.hR, h.hQ, h.ne⟩
theorem RRep.setR (h : RRep W0 w v out R Q r old) (s : Rp) : RRep W0 ((((w.setCell ⟨R, 0, none⟩ (.int .i64 s.a)).setCell ⟨R, 1, none⟩ (.int .i64 s.b)).setCell ⟨R, 2, none⟩ (.int .i64 s.c)).setCell ⟨R, 3, none⟩ (.int .i64 s.d)) v out R Q s old := by
  have hno := row4_not h.row h.hr (by decide)
  have hF := four_frame w R (.int .i64 s.a) (.int .i64 s.b) (.int .i64 s.c) (.int .i64 s.d)
  exact ⟨ownsRow_frame h.row hF (fun k hk e => hno (by rw [hk, e])), four_heap h.hr _ _ _ _, (hF.block Q (lt_of_heap h.hq) (fun e => h.ne e.symm)).trans h.hq, below_four h.below h.hR _ _ _ _, h.own, h.hR, h.hQ, h.ne⟩
theorem RRep.setQ (h : RRep W0 w v out R Q r old) (s : Rp) : RRep W0 ((((w.setCell ⟨Q, 0, none⟩ (.int .i64 s.a)).setCell ⟨Q, 1, none⟩ (.int .i64 s.b)).setCell ⟨Q, 2, none⟩ (.int .i64 s.c)).setCell ⟨Q, 3, none⟩ (.int .i64 s.d)) v out R Q r s := by
  have hno := row4_not h.row h.hq (by decide)
  have hF := four_frame w Q (.int .i64 s.a) (.int .i64 s.b) (.int .i64 s.c) (.int .i64 s.d)
  exact ⟨ownsRow_frame h.row hF (fun k hk e => hno (by rw [hk, e])), (hF.block R (lt_of_heap h.hr) (fun e => h.ne e)).trans h.hr, four_heap h.hq _ _ _ _, below_four h.below h.hQ _ _ _ _, h.own, h.hR, h.hQ, h.ne⟩
theorem RRep.app {n : Nat} {o : Obj} {p : Pt} (h : RRep W0 w v out R Q r old) (hn : out.length = n) (hown : w'.ownsRow 0 51 4 v' (n + 1) (flatP out ++ [.int .i64 p.k, .int .i64 p.d, .int .i64 p.n, .int .u8 (p.b : Int)])) (hg : (w.alloc o).grownBy w' v.ownBlock) (hm : Moved (w.alloc o) v v') : RRep W0 w' v' (out ++ [p]) R Q r old := by
  have keep : ∀ (X : Nat) (ds : Array Value), w.heap[X]? = some (Obj.cells ds 68 (0, 0)) → w'.heap[X]? = w.heap[X]? := fun X ds hX => by
    have hno := row4_not h.row hX (by decide)
    have hb := hg.block X (by rw [World.size_alloc]; have := lt_of_heap hX; omega) (fun e => hno e.symm)
    rw [Below.heap_alloc w o X (lt_of_heap hX)] at hb
    exact hb
  refine ⟨?_, (keep R _ h.hr).trans h.hr, (keep Q _ h.hq).trans h.hq, ?_, ?_, h.hR, h.hQ, h.ne⟩
  · unfold PtsT
    rw [List.length_append, flatP_append, hn]
    exact hown
  · exact h.below.trans ((((Frame.refl (fun k => v.ownBlock = some k) w).alloc o).grown hg (fun k hk => .inl hk)).below h.below.size (fun k hk ho => by have := h.own k ho; omega))
  · intro k hk
    rcases hm with e | e
    · rw [e] at hk; exact h.own k hk
    · have h1 := e k hk
      rw [World.size_alloc] at h1
      have := h.below.size
      omega
end
theorem at4 {W : World} {R : Nat} {d : Int} {r : Rp} {t : TypeId} (h : W.heap[R]? = some (.cells #[.int .i64 r.a, .int .i64 r.b, .int .i64 r.c, .int .i64 r.d] t (0, 0))) (h0 : 0 ≤ d) (h4 : d < 4) : W.cell? ⟨R, d.toNat, none⟩ = some (.int .i64 (r.at d)) := by
  obtain ⟨⟨a0, a1, a2, a3⟩, _⟩ := four h
  have : d = 0 ∨ d = 1 ∨ d = 2 ∨ d = 3 := by omega
  rcases this with rfl | rfl | rfl | rfl
  · exact a0
  · exact a1
  · exact a2
  · exact a3
theorem pr_new (w : World) (a b c d : Value) : ∀ j u, [a, b, c, d][j]? = some u → (w.alloc (.cells #[a, b, c, d] 51)).cell? ((⟨w.heap.size, 0, none⟩ : Addr).add j) = some u := World.news_of_block (heap_alloc_new _ _)
def RRp (W : World) (R Q : Nat) (ps : List Pt) (k : Nat) (v : Value) (w : World) : Prop := ∃ out r old, RRep W w v out R Q r old ∧ out.length = k ∧ out ++ rrep (ps.drop k) r old = rrep ps ⟨1, 1, 1, 1⟩ ⟨1, 1, 1, 1⟩
def RepTo (W : World) (qs : List Pt) (e : Ending) (w' : World) : Prop := ∃ v, e = .returned v ∧ PtsT 51 w' v qs ∧ Below W.heap.size W w'
theorem rrep_plain {p : Pt} {ps : List Pt} {r old : Rp} (h : plainB p = true) : rrep (p :: ps) r old = p :: rrep ps r old := by rw [rrep, if_pos h]
theorem rrep_more {p : Pt} {ps : List Pt} {r old : Rp} (h : plainB p = false) : rrep (p :: ps) r old = (r.retell (if p.k = 3 then old.at p.d else p.d) p.n).1 :: rrep ps (r.retell (if p.k = 3 then old.at p.d else p.d) p.n).2 (if p.k = 3 then old.front p.d else old.push p.d) := by rw [rrep, if_neg (by rw [h]; simp)]
set_option maxRecDepth 100000 in
set_option maxHeartbeats 8000000 in
theorem rrepeat_any {W : World} {a : Option Addr} {ps : List Pt} (h : IsPts W a ps) (hl : ps.length ≤ 1000) (cap : Nat) :
    Calls Try.prog 21 #[.slice a ps.length cap] W (RepTo W (rrep ps ⟨1, 1, 1, 1⟩ ⟨1, 1, 1, 1⟩)) := by
  have HIP := Lib.hid h
  clear h
  go_enter Try.func21, Try.ntmps21
  go_wp2_with fail
  have HR0 : Hid (RRp W W.heap.size (W.heap.size + 1) ps 0 (.slice none 0 0) ((W.alloc (.cells #[.int .i64 1, .int .i64 1, .int .i64 1, .int .i64 1] 68)).alloc (.cells #[.int .i64 1, .int .i64 1, .int .i64 1, .int .i64 1] 68))) := Lib.hid (by
    refine ⟨[], ⟨1, 1, 1, 1⟩, ⟨1, 1, 1, 1⟩, ⟨World.ownsRow_nil _ _ _ _, ?_, ?_, ((Below.refl _ _).alloc (Nat.le_refl _) _).alloc (by simp) _, by simp [Value.ownBlock], Nat.le_refl _, by omega, by omega⟩, rfl, rfl⟩
    · rw [Below.heap_alloc _ _ _ (by simp)]
      exact heap_alloc_new W _
    · have := heap_alloc_new (W.alloc (.cells #[.int .i64 1, .int .i64 1, .int .i64 1, .int .i64 1] 68)) (.cells #[.int .i64 1, .int .i64 1, .int .i64 1, .int .i64 1] 68)
      rw [World.size_alloc] at this
      exact this)
  generalize (W.alloc (.cells #[.int .i64 1, .int .i64 1, .int .i64 1, .int .i64 1] 68)).alloc (.cells #[.int .i64 1, .int .i64 1, .int .i64 1, .int .i64 1] 68) = W3 at *
  generalize W.heap.size + 1 = Q at *
  generalize hRe : W.heap.size = R at *
  clear hRe
  go_loopw [5, 6] (fun v i wr => ∃ k : Nat, k ≤ ps.length ∧ i = .int .i64 k ∧ RRp W R Q ps k v wr) (fun _ i _ => ps.length - (intOf i).toNat)
  case atStart => exact ⟨0, by omega, rfl, HR0.out⟩
  case round =>
    clear HR0
    obtain ⟨k, hk, rfl, out, r, old, hL, hok, hres⟩ := hrel
    have HRES := Lib.hid hres
    clear hres
    by_cases hlt : k < ps.length
    · rcases HIP.out with he | ⟨b, off, rfl, hc⟩
      · rw [he] at hlt; simp at hlt
      · have hpt := (hc k hlt).below hL.below
        have HD := Lib.hid (List.drop_eq_getElem_cons hlt)
        rw [HD.out] at HRES
        clear HD hc
        generalize ps[k] = p at *
        obtain ⟨c0, c1, c2, c3, hpb⟩ := hpt
        have HL := Lib.hid hL
        clear hL
        obtain ⟨i0, hi, hz0, hz1, hz2⟩ := info_parts infoPr
        have HI := Lib.hid hi
        have HZ0 := Lib.hid hz0
        have HZ1 := Lib.hid hz1
        have HZ2 := Lib.hid hz2
        have HOK := Lib.hid hok
        have hm1 : k + 1 ≤ maxLen := by unfold maxLen; omega
        have hm2 : (k + 1) * 32 ≤ 140737488355328 := by omega
        clear hi hz0 hz1 hz2 hok
        go_upto_region 7 with (fail)
        have HP9 := Lib.hid (heap_alloc_new wr (.cells #[.int .i64 p.k, .int .i64 p.d, .int .i64 p.n, .int .u8 (p.b : Int)] 51))
        have HL9 := Lib.hid (HL.out.news ((Below.refl _ wr).alloc (Nat.le_refl _) (.cells #[.int .i64 p.k, .int .i64 p.d, .int .i64 p.n, .int .u8 (p.b : Int)] 51)))
        clear HL c0 c1 c2 c3
        generalize wr.alloc (.cells #[.int .i64 p.k, .int .i64 p.d, .int .i64 p.n, .int .u8 (p.b : Int)] 51) = W9 at *
        generalize wr.heap.size = P at *
        obtain ⟨⟨p0, p1, p2, p3⟩, _, hPl⟩ := four HP9.out
        cases hpl : plainB p with
        | true =>
          as_aux_lemma =>
          -- BEGIN plain
          have HE := Lib.hid (show (out ++ [p]) ++ rrep (ps.drop (k + 1)) r old = rrep ps ⟨1, 1, 1, 1⟩ ⟨1, 1, 1, 1⟩ by rw [← HRES.out, rrep_plain hpl, List.append_assoc]; rfl)
          have HROW : Hid (W9.ownsRow 0 51 4 u5 k (flatP out)) := Lib.hid (by have := HL9.out.row; unfold PtsT at this; rw [HOK.out] at this; exact this)
          have key : (p.k ≠ 2 ∧ p.k ≠ 3) ∨ (p.k = 3 ∧ p.d < 0) ∨ (p.k = 3 ∧ ¬ p.d < 0 ∧ 3 < p.d) := by
            unfold plainB at hpl
            simp at hpl
            omega
          clear HRES hpl
          have hokl := HOK.out
          rcases key with ⟨k1, k2⟩ | ⟨k1, k2⟩ | ⟨k1, k2, k3⟩
          · have e1 : (p.k != 2) = true := by simpa using k1
            have e2 : (p.k != 3) = true := by simpa using k2
            clear k1 k2 hokl
            go_wp2_with (at_builtin; refine wpList_append_one _ rfl _ _ 49 rfl 51 i0 (.agg #[.int .i64 0, .int .i64 0, .int .i64 0, .int .u8 0]) 4 32 Try.underlying49 HI.out HZ0.out HZ1.out HZ2.out rfl (by decide) u5 k _ rfl (HROW.out.alloc _) ⟨W9.heap.size, 0, none⟩ 1 [.int .i64 p.k, .int .i64 p.d, .int .i64 p.n, .int .u8 (p.b : Int)] rfl rfl (pr_new _ _ _ _ _) (pt_one _ _ _ _) hm1 hm2 ?_; intro g9 cap9 w12 hown12 hgr12 hmv12; have HTT := Lib.hid (HL9.out.app HOK.out hown12 hgr12 hmv12); clear hown12 hgr12 hmv12)
            go_roundw
            case rel => exact ⟨k + 1, by omega, by go_num, _, r, old, HTT.out, by simp [HOK.out], HE.out⟩
            case measure => simp [intOf]; omega
          · have e1 : (p.k != 2) = true := by simp; omega
            have e2 : (p.k != 3) = false := by simpa using k1
            have e3 : (p.k == 3) = true := by simpa using k1
            have e4 : decide (p.d < 0) = true := by simpa using k2
            clear k1 k2 hokl
            go_wp2_with (at_builtin; refine wpList_append_one _ rfl _ _ 49 rfl 51 i0 (.agg #[.int .i64 0, .int .i64 0, .int .i64 0, .int .u8 0]) 4 32 Try.underlying49 HI.out HZ0.out HZ1.out HZ2.out rfl (by decide) u5 k _ rfl (HROW.out.alloc _) ⟨W9.heap.size, 0, none⟩ 1 [.int .i64 p.k, .int .i64 p.d, .int .i64 p.n, .int .u8 (p.b : Int)] rfl rfl (pr_new _ _ _ _ _) (pt_one _ _ _ _) hm1 hm2 ?_; intro g9 cap9 w12 hown12 hgr12 hmv12; have HTT := Lib.hid (HL9.out.app HOK.out hown12 hgr12 hmv12); clear hown12 hgr12 hmv12)
            go_roundw
            case rel => exact ⟨k + 1, by omega, by go_num, _, r, old, HTT.out, by simp [HOK.out], HE.out⟩
            case measure => simp [intOf]; omega
          · have e1 : (p.k != 2) = true := by simp; omega
            have e2 : (p.k != 3) = false := by simpa using k1
            have e3 : (p.k == 3) = true := by simpa using k1
            have e4 : decide (p.d < 0) = false := by simpa using k2
            have e5 : decide (3 < p.d) = true := by simpa using k3
            clear k1 k2 k3 hokl
            go_wp2_with (at_builtin; refine wpList_append_one _ rfl _ _ 49 rfl 51 i0 (.agg #[.int .i64 0, .int .i64 0, .int .i64 0, .int .u8 0]) 4 32 Try.underlying49 HI.out HZ0.out HZ1.out HZ2.out rfl (by decide) u5 k _ rfl (HROW.out.alloc _) ⟨W9.heap.size, 0, none⟩ 1 [.int .i64 p.k, .int .i64 p.d, .int .i64 p.n, .int .u8 (p.b : Int)] rfl rfl (pr_new _ _ _ _ _) (pt_one _ _ _ _) hm1 hm2 ?_; intro g9 cap9 w12 hown12 hgr12 hmv12; have HTT := Lib.hid (HL9.out.app HOK.out hown12 hgr12 hmv12); clear hown12 hgr12 hmv12)
            go_roundw
            case rel => exact ⟨k + 1, by omega, by go_num, _, r, old, HTT.out, by simp [HOK.out], HE.out⟩
            case measure => simp [intOf]; omega
          -- END plain
        | false =>
          as_aux_lemma =>
          have key : p.k = 2 ∨ (p.k = 3 ∧ 0 ≤ p.d ∧ p.d < 4) := by
            unfold plainB at hpl
            simp at hpl
            omega
          rw [rrep_more hpl] at HRES
          obtain ⟨dd, hdd⟩ : ∃ dd : Int, dd = (if p.k = 3 then old.at p.d else p.d) := ⟨_, rfl⟩
          obtain ⟨od, hod⟩ : ∃ od : Rp, od = (if p.k = 3 then old.front p.d else old.push p.d) := ⟨_, rfl⟩
          rw [← hdd, ← hod] at HRES
          have HDD := Lib.hid hdd
          have HOD := Lib.hid hod
          obtain ⟨⟨q0, q1, q2, q3⟩, ⟨f0, f1, f2, f3⟩, hQl⟩ := four HL9.out.hq
          clear hpl hdd hod
          rcases key with hk2 | ⟨hk3, h0, h4⟩
          · as_aux_lemma =>
            -- BEGIN two
            have e1 : (p.k != 2) = false := by simpa using hk2
            have e3 : (p.k == 3) = false := by simp; omega
            have hdp : dd = p.d := by rw [HDD.out, if_neg (by omega)]
            have hop : od = old.push p.d := by rw [HOD.out, if_neg (by omega)]
            rw [← hdp] at p1
            rw [← hdp] at hop
            have HOP := Lib.hid hop
            have HDP := Lib.hid hdp
            clear hk2 hdp hop HDD HOD
            go_wp2_with fail
            refine (show Calls Try.prog 52 #[.agg #[.int .i64 old.a, .int .i64 old.b, .int .i64 old.c, .int .i64 old.d], .int .i64 dd] W9 fun x w' => x = .returned (old.push dd).val ∧ Below W9.heap.size W9 w' from rpush_any old dd W9).mono ?_
            rintro x w10 ⟨rfl, hb10⟩
            rw [← HOP.out]
            have HL10 := Lib.hid (HL9.out.news hb10)
            have HP10 := Lib.hid ((hb10.block P hPl).trans HP9.out)
            clear hb10 HL9 HP9 q0 q1 q2 q3 f0 f1 f2 f3 hQl p0 p1 p2 p3 hPl
            obtain ⟨⟨q0, q1, q2, q3⟩, ⟨f0, f1, f2, f3⟩, hQl⟩ := four HL10.out.hq
            have HLC0 := Lib.hid (HL10.out.setQ od)
            have HP110 := Lib.hid ((four_frame w10 Q (.int .i64 od.a) (.int .i64 od.b) (.int .i64 od.c) (.int .i64 od.d)).block P (lt_of_heap HP10.out) (fun e => by
              have h1 := HP10.out
              rw [e, HL10.out.hq] at h1
              simp at h1) |>.trans HP10.out)
            unfold Rp.val
            go_upto_region 14 with (fail)
            generalize (((w10.setCell ⟨Q, 0, none⟩ (.int .i64 od.a)).setCell ⟨Q, 1, none⟩ (.int .i64 od.b)).setCell ⟨Q, 2, none⟩ (.int .i64 od.c)).setCell ⟨Q, 3, none⟩ (.int .i64 od.d) = w11 at *
            have HLC := HLC0
            have HP11 := HP110
            clear HLC0 HP110 HL10 HP10 q0 q1 q2 q3 f0 f1 f2 f3 hQl e1 e3
            go_wp2_with fail
            go_loop [9, 10] (fun x y => ∃ j : Int, -1 ≤ j ∧ j ≤ 3 ∧ y = .int .i64 j ∧ x = .int .i64 (atv r dd j)) (fun _ y => (intOf y + 1).toNat)
            case atStart => exact ⟨3, by omega, by omega, rfl, by rw [atv_top]⟩
            case round =>
              obtain ⟨j, hj0, hj3, rfl, rfl⟩ := hrel
              by_cases hj : 0 ≤ j
              · as_aux_lemma =>
                have hcell := at4 HLC.out.hr hj (by omega)
                have HST := Lib.hid (atv_step r dd j hj hj3)
                generalize r.at j = rj at *
                generalize atv r dd j = av at *
                have hj4 : j < 4 := by omega
                by_cases hrj : rj = dd
                · have eq1 : (rj == dd) = true := by simpa using hrj
                  rw [if_pos hrj] at HST
                  clear hrj
                  go_wp2_with fail
                  go_round
                  case rel => exact ⟨j - 1, by omega, by omega, rfl, by rw [HST.out]⟩
                  case measure => simp [intOf]; omega
                · have eq1 : (rj == dd) = false := by simpa using hrj
                  rw [if_neg hrj] at HST
                  clear hrj
                  go_wp2_with fail
                  go_round
                  case rel => exact ⟨j - 1, by omega, by omega, rfl, by rw [HST.out]⟩
                  case measure => simp [intOf]; omega
              · obtain rfl : j = -1 := by omega
                rw [atv_find]
                obtain ⟨⟨p0, p1, p2, p3⟩, _, hPl⟩ := four HP11.out
                have HROW : Hid (w11.ownsRow 0 51 4 u5 k (flatP out)) := Lib.hid (by have := HLC.out.row; unfold PtsT at this; rw [HOK.out] at this; exact this)
                cases hfd : (r.find dd).2 with
                | true =>
                  as_aux_lemma =>
                  have hfs := find_some hfd
                  have HRT := Lib.hid (show r.retell dd p.n = (⟨3, (r.find dd).1, p.n, 0⟩, r.front (r.find dd).1) by unfold Rp.retell; rw [if_pos hfd])
                  rw [if_pos rfl]
                  generalize (r.find dd).1 = fi at *
                  have hfi0 := hfs.1
                  have HE := Lib.hid (show (out ++ [⟨3, fi, p.n, 0⟩]) ++ rrep (ps.drop (k + 1)) (r.front fi) od = rrep ps ⟨1, 1, 1, 1⟩ ⟨1, 1, 1, 1⟩ by rw [← HRES.out, HRT.out, List.append_assoc]; rfl)
                  clear hfd hfs HRES
                  go_wp2_with (at_builtin; refine wpList_append_one _ rfl _ _ 49 rfl 51 i0 (.agg #[.int .i64 0, .int .i64 0, .int .i64 0, .int .u8 0]) 4 32 Try.underlying49 HI.out HZ0.out HZ1.out HZ2.out rfl (by decide) u5 k _ rfl (HROW.out.alloc _) ⟨w11.heap.size, 0, none⟩ 1 [.int .i64 3, .int .i64 fi, .int .i64 p.n, .int .u8 ((0 : Nat) : Int)] rfl rfl (pr_new _ _ _ _ _) (pt_one 3 _ _ 0) hm1 hm2 ?_; intro g9 cap9 w12 hown12 hgr12 hmv12; have HTT := Lib.hid (HLC.out.app (p := ⟨3, fi, p.n, 0⟩) HOK.out hown12 hgr12 hmv12); clear hown12 hgr12 hmv12; obtain ⟨⟨r0, r1, r2, r3⟩, ⟨g0, g1, g2, g3⟩, hRl⟩ := four HTT.out.hr)
                  refine (show Calls Try.prog 51 #[.agg #[.int .i64 r.a, .int .i64 r.b, .int .i64 r.c, .int .i64 r.d], .int .i64 fi] w12 fun x w' => x = .returned (r.front fi).val ∧ Below w12.heap.size w12 w' from rfront_any r fi w12).mono ?_
                  rintro x w13 ⟨rfl, hb13⟩
                  have HL13 := Lib.hid (HTT.out.news hb13)
                  clear hb13 HTT r0 r1 r2 r3 g0 g1 g2 g3 hRl
                  obtain ⟨⟨r0, r1, r2, r3⟩, ⟨g0, g1, g2, g3⟩, hRl⟩ := four HL13.out.hr
                  have HEND := Lib.hid (HL13.out.setR (r.front fi))
                  generalize r.front fi = s at *
                  unfold Rp.val
                  go_wp2_with fail
                  go_roundw
                  case rel => exact ⟨k + 1, by omega, by go_num, _, s, od, HEND.out, by simp [HOK.out], HE.out⟩
                  case measure => simp [intOf]; omega
                | false =>
                  as_aux_lemma =>
                  have HRT := Lib.hid (show r.retell dd p.n = (⟨2, dd, p.n, 0⟩, r.push dd) by unfold Rp.retell; rw [if_neg (by rw [hfd]; simp)])
                  rw [if_neg (by simp)]
                  have HE := Lib.hid (show (out ++ [⟨2, dd, p.n, 0⟩]) ++ rrep (ps.drop (k + 1)) (r.push dd) od = rrep ps ⟨1, 1, 1, 1⟩ ⟨1, 1, 1, 1⟩ by rw [← HRES.out, HRT.out, List.append_assoc]; rfl)
                  clear hfd HRES
                  go_wp2_with (at_builtin; refine wpList_append_one _ rfl _ _ 49 rfl 51 i0 (.agg #[.int .i64 0, .int .i64 0, .int .i64 0, .int .u8 0]) 4 32 Try.underlying49 HI.out HZ0.out HZ1.out HZ2.out rfl (by decide) u5 k _ rfl (HROW.out.alloc _) ⟨w11.heap.size, 0, none⟩ 1 [.int .i64 2, .int .i64 dd, .int .i64 p.n, .int .u8 ((0 : Nat) : Int)] rfl rfl (pr_new _ _ _ _ _) (pt_one 2 _ _ 0) hm1 hm2 ?_; intro g9 cap9 w12 hown12 hgr12 hmv12; have HTT := Lib.hid (HLC.out.app (p := ⟨2, dd, p.n, 0⟩) HOK.out hown12 hgr12 hmv12); clear hown12 hgr12 hmv12; obtain ⟨⟨r0, r1, r2, r3⟩, ⟨g0, g1, g2, g3⟩, hRl⟩ := four HTT.out.hr)
                  refine (show Calls Try.prog 52 #[.agg #[.int .i64 r.a, .int .i64 r.b, .int .i64 r.c, .int .i64 r.d], .int .i64 dd] w12 fun x w' => x = .returned (r.push dd).val ∧ Below w12.heap.size w12 w' from rpush_any r dd w12).mono ?_
                  rintro x w13 ⟨rfl, hb13⟩
                  have HL13 := Lib.hid (HTT.out.news hb13)
                  clear hb13 HTT r0 r1 r2 r3 g0 g1 g2 g3 hRl
                  obtain ⟨⟨r0, r1, r2, r3⟩, ⟨g0, g1, g2, g3⟩, hRl⟩ := four HL13.out.hr
                  have HEND := Lib.hid (HL13.out.setR (r.push dd))
                  generalize r.push dd = s at *
                  unfold Rp.val
                  go_wp2_with fail
                  go_roundw
                  case rel => exact ⟨k + 1, by omega, by go_num, _, s, od, HEND.out, by simp [HOK.out], HE.out⟩
                  case measure => simp [intOf]; omega
            -- END two
          · as_aux_lemma =>
            -- BEGIN three
            have e1 : (p.k != 2) = true := by simp; omega
            have e2 : (p.k != 3) = false := by simpa using hk3
            have e3 : (p.k == 3) = true := by simpa using hk3
            have e4 : decide (p.d < 0) = false := by rw [decide_eq_false_iff_not]; omega
            have e5 : decide (3 < p.d) = false := by rw [decide_eq_false_iff_not]; omega
            have hdp : dd = old.at p.d := by rw [HDD.out, if_pos hk3]
            have hop : od = old.front p.d := by rw [HOD.out, if_pos hk3]
            have hcd := at4 HL9.out.hq h0 h4
            rw [← hdp] at hcd
            have HOP := Lib.hid hop
            clear hk3 hdp hop HDD HOD
            go_wp2_with fail
            refine (show Calls Try.prog 51 #[.agg #[.int .i64 old.a, .int .i64 old.b, .int .i64 old.c, .int .i64 old.d], .int .i64 p.d] W9 fun x w' => x = .returned (old.front p.d).val ∧ Below W9.heap.size W9 w' from rfront_any old p.d W9).mono ?_
            rintro x w10 ⟨rfl, hb10⟩
            rw [← HOP.out]
            have HL10 := Lib.hid (HL9.out.news hb10)
            have HP10 := Lib.hid ((hb10.block P hPl).trans HP9.out)
            clear hb10 HL9 HP9 q0 q1 q2 q3 f0 f1 f2 f3 hQl p0 p1 p2 p3 hPl hcd
            obtain ⟨⟨q0, q1, q2, q3⟩, ⟨f0, f1, f2, f3⟩, hQl⟩ := four HL10.out.hq
            have HLC0 := Lib.hid (HL10.out.setQ od)
            have HP110 := Lib.hid ((four_frame w10 Q (.int .i64 od.a) (.int .i64 od.b) (.int .i64 od.c) (.int .i64 od.d)).block P (lt_of_heap HP10.out) (fun e => by
              have h1 := HP10.out
              rw [e, HL10.out.hq] at h1
              simp at h1) |>.trans HP10.out)
            unfold Rp.val
            go_upto_region 14 with (fail)
            generalize (((w10.setCell ⟨Q, 0, none⟩ (.int .i64 od.a)).setCell ⟨Q, 1, none⟩ (.int .i64 od.b)).setCell ⟨Q, 2, none⟩ (.int .i64 od.c)).setCell ⟨Q, 3, none⟩ (.int .i64 od.d) = w11 at *
            have HLC := HLC0
            have HP11 := HP110
            clear HLC0 HP110 HL10 HP10 q0 q1 q2 q3 f0 f1 f2 f3 hQl e1 e2 e3 e4 e5 h0 h4
            go_wp2_with fail
            go_loop [9, 10] (fun x y => ∃ j : Int, -1 ≤ j ∧ j ≤ 3 ∧ y = .int .i64 j ∧ x = .int .i64 (atv r dd j)) (fun _ y => (intOf y + 1).toNat)
            case atStart => exact ⟨3, by omega, by omega, rfl, by rw [atv_top]⟩
            case round =>
              obtain ⟨j, hj0, hj3, rfl, rfl⟩ := hrel
              by_cases hj : 0 ≤ j
              · as_aux_lemma =>
                have hcell := at4 HLC.out.hr hj (by omega)
                have HST := Lib.hid (atv_step r dd j hj hj3)
                generalize r.at j = rj at *
                generalize atv r dd j = av at *
                have hj4 : j < 4 := by omega
                by_cases hrj : rj = dd
                · have eq1 : (rj == dd) = true := by simpa using hrj
                  rw [if_pos hrj] at HST
                  clear hrj
                  go_wp2_with fail
                  go_round
                  case rel => exact ⟨j - 1, by omega, by omega, rfl, by rw [HST.out]⟩
                  case measure => simp [intOf]; omega
                · have eq1 : (rj == dd) = false := by simpa using hrj
                  rw [if_neg hrj] at HST
                  clear hrj
                  go_wp2_with fail
                  go_round
                  case rel => exact ⟨j - 1, by omega, by omega, rfl, by rw [HST.out]⟩
                  case measure => simp [intOf]; omega
              · obtain rfl : j = -1 := by omega
                rw [atv_find]
                obtain ⟨⟨p0, p1, p2, p3⟩, _, hPl⟩ := four HP11.out
                have HROW : Hid (w11.ownsRow 0 51 4 u5 k (flatP out)) := Lib.hid (by have := HLC.out.row; unfold PtsT at this; rw [HOK.out] at this; exact this)
                cases hfd : (r.find dd).2 with
                | true =>
                  as_aux_lemma =>
                  have hfs := find_some hfd
                  have HRT := Lib.hid (show r.retell dd p.n = (⟨3, (r.find dd).1, p.n, 0⟩, r.front (r.find dd).1) by unfold Rp.retell; rw [if_pos hfd])
                  rw [if_pos rfl]
                  generalize (r.find dd).1 = fi at *
                  have hfi0 := hfs.1
                  have HE := Lib.hid (show (out ++ [⟨3, fi, p.n, 0⟩]) ++ rrep (ps.drop (k + 1)) (r.front fi) od = rrep ps ⟨1, 1, 1, 1⟩ ⟨1, 1, 1, 1⟩ by rw [← HRES.out, HRT.out, List.append_assoc]; rfl)
                  clear hfd hfs HRES
                  go_wp2_with (at_builtin; refine wpList_append_one _ rfl _ _ 49 rfl 51 i0 (.agg #[.int .i64 0, .int .i64 0, .int .i64 0, .int .u8 0]) 4 32 Try.underlying49 HI.out HZ0.out HZ1.out HZ2.out rfl (by decide) u5 k _ rfl (HROW.out.alloc _) ⟨w11.heap.size, 0, none⟩ 1 [.int .i64 3, .int .i64 fi, .int .i64 p.n, .int .u8 ((0 : Nat) : Int)] rfl rfl (pr_new _ _ _ _ _) (pt_one 3 _ _ 0) hm1 hm2 ?_; intro g9 cap9 w12 hown12 hgr12 hmv12; have HTT := Lib.hid (HLC.out.app (p := ⟨3, fi, p.n, 0⟩) HOK.out hown12 hgr12 hmv12); clear hown12 hgr12 hmv12; obtain ⟨⟨r0, r1, r2, r3⟩, ⟨g0, g1, g2, g3⟩, hRl⟩ := four HTT.out.hr)
                  refine (show Calls Try.prog 51 #[.agg #[.int .i64 r.a, .int .i64 r.b, .int .i64 r.c, .int .i64 r.d], .int .i64 fi] w12 fun x w' => x = .returned (r.front fi).val ∧ Below w12.heap.size w12 w' from rfront_any r fi w12).mono ?_
                  rintro x w13 ⟨rfl, hb13⟩
                  have HL13 := Lib.hid (HTT.out.news hb13)
                  clear hb13 HTT r0 r1 r2 r3 g0 g1 g2 g3 hRl
                  obtain ⟨⟨r0, r1, r2, r3⟩, ⟨g0, g1, g2, g3⟩, hRl⟩ := four HL13.out.hr
                  have HEND := Lib.hid (HL13.out.setR (r.front fi))
                  generalize r.front fi = s at *
                  unfold Rp.val
                  go_wp2_with fail
                  go_roundw
                  case rel => exact ⟨k + 1, by omega, by go_num, _, s, od, HEND.out, by simp [HOK.out], HE.out⟩
                  case measure => simp [intOf]; omega
                | false =>
                  as_aux_lemma =>
                  have HRT := Lib.hid (show r.retell dd p.n = (⟨2, dd, p.n, 0⟩, r.push dd) by unfold Rp.retell; rw [if_neg (by rw [hfd]; simp)])
                  rw [if_neg (by simp)]
                  have HE := Lib.hid (show (out ++ [⟨2, dd, p.n, 0⟩]) ++ rrep (ps.drop (k + 1)) (r.push dd) od = rrep ps ⟨1, 1, 1, 1⟩ ⟨1, 1, 1, 1⟩ by rw [← HRES.out, HRT.out, List.append_assoc]; rfl)
                  clear hfd HRES
                  go_wp2_with (at_builtin; refine wpList_append_one _ rfl _ _ 49 rfl 51 i0 (.agg #[.int .i64 0, .int .i64 0, .int .i64 0, .int .u8 0]) 4 32 Try.underlying49 HI.out HZ0.out HZ1.out HZ2.out rfl (by decide) u5 k _ rfl (HROW.out.alloc _) ⟨w11.heap.size, 0, none⟩ 1 [.int .i64 2, .int .i64 dd, .int .i64 p.n, .int .u8 ((0 : Nat) : Int)] rfl rfl (pr_new _ _ _ _ _) (pt_one 2 _ _ 0) hm1 hm2 ?_; intro g9 cap9 w12 hown12 hgr12 hmv12; have HTT := Lib.hid (HLC.out.app (p := ⟨2, dd, p.n, 0⟩) HOK.out hown12 hgr12 hmv12); clear hown12 hgr12 hmv12; obtain ⟨⟨r0, r1, r2, r3⟩, ⟨g0, g1, g2, g3⟩, hRl⟩ := four HTT.out.hr)
                  refine (show Calls Try.prog 52 #[.agg #[.int .i64 r.a, .int .i64 r.b, .int .i64 r.c, .int .i64 r.d], .int .i64 dd] w12 fun x w' => x = .returned (r.push dd).val ∧ Below w12.heap.size w12 w' from rpush_any r dd w12).mono ?_
                  rintro x w13 ⟨rfl, hb13⟩
                  have HL13 := Lib.hid (HTT.out.news hb13)
                  clear hb13 HTT r0 r1 r2 r3 g0 g1 g2 g3 hRl
                  obtain ⟨⟨r0, r1, r2, r3⟩, ⟨g0, g1, g2, g3⟩, hRl⟩ := four HL13.out.hr
                  have HEND := Lib.hid (HL13.out.setR (r.push dd))
                  generalize r.push dd = s at *
                  unfold Rp.val
                  go_wp2_with fail
                  go_roundw
                  case rel => exact ⟨k + 1, by omega, by go_num, _, s, od, HEND.out, by simp [HOK.out], HE.out⟩
                  case measure => simp [intOf]; omega
            -- END three
    · obtain rfl : k = ps.length := by omega
      rw [List.drop_length, rrep, List.append_nil] at HRES
      have HL := Lib.hid hL
      clear hL
      go_wp2_with fail
      go_ret
      exact ⟨_, rfl, by rw [← HRES.out]; exact HL.out.row, HL.out.below⟩
end Go.Proofs.Ythdjnbhdgacmgaa.Pk
