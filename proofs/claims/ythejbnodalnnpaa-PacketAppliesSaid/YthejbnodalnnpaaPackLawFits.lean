/-
  Layer 6's statements: fits: of packets that tell a text the program's answer and the document's are one.
-/
import Derived.Test.YthejbnodalnnpaaPackBackAll
import Derived.Test.YthejbnodalnnpaaPackRepMath
import Derived.Test.YthejbnodalnnpaaPackEq
import Derived.Test.YthejbnodalnnpaaPackApply
import Derived.Test.YthejbnodalnnpaaTail
import Derived.StillTailTactics
namespace Go.Proofs.Ythejbnodalnnpaa.Pk
open Go.RowKit
structure FitL (W wr : World) (R most : Nat) (t : List UInt8) (qs : List Pt) (l : List UInt8) (r : Rp) : Prop where
  below : Below W.heap.size W wr
  reps : wr.heap[R]? = some (.cells #[.int .i64 r.a, .int .i64 r.b, .int .i64 r.c, .int .i64 r.d] 77 (0, 0))
  ge : W.heap.size ≤ R
  pos : r.pos
  res : applyL most qs l r = (t, 0)
theorem fit_go {most : Nat} {t l : List UInt8} {p : Pt} {qs : List Pt} {r : Rp} (h : applyL most (p :: qs) l r = (t, 0)) (hp : r.pos) :
    ∃ d n s l', p.fit (l.length : Int) r = some (d, n, s) ∧ s.pos ∧ 0 ≤ n ∧ n ≤ 273 ∧ (l'.length : Int) = l.length + n ∧ applyL most qs l' s = (t, 0) := by
  cases hf : p.fit (l.length : Int) r with
  | none => rw [applyL_none hf] at h; cases h
  | some x =>
    obtain ⟨d, n, s⟩ := x
    obtain ⟨hs, hk⟩ := fit_some hf hp
    cases ht : p.tell most l d n with
    | none => rw [applyL_long hf ht] at h; cases h
    | some l' =>
      rw [applyL_more hf ht] at h
      refine ⟨d, n, s, l', rfl, hs, ?_, ?_, tell_more ht (by rcases hk with h | ⟨h1, _, _, h2, _⟩; exact .inl h; exact .inr ⟨h1, h2⟩), h⟩
      · rcases hk with ⟨_, h⟩ | ⟨_, _, _, h, _⟩ <;> omega
      · rcases hk with ⟨_, h⟩ | ⟨_, _, _, _, h⟩ <;> omega
theorem fit_neg {p : Pt} {r : Rp} (hk : p.k ≠ 1) (hr : r.pos) : p.fit (-1) r = none := by
  cases h : p.fit (-1) r with
  | none => rfl
  | some x =>
    obtain ⟨d, n, s⟩ := x
    rcases (fit_some h hr).2 with ⟨h1, _⟩ | ⟨_, h1, h2, _⟩
    · exact absurd h1 hk
    · omega
/-- The calls of a round. -/
structure FitC (p : Pt) (hv d n : Int) (r s : Rp) (d2 n2 : Int) (s2 : Rp) (ok2 : Bool) : Prop where
  one : ∀ W' : World, Calls Try.prog 71 #[.agg #[.int .i64 p.k, .int .i64 p.d, .int .i64 p.n, .int .u8 (p.b : Int)], .int .i64 hv, .agg #[.int .i64 r.a, .int .i64 r.b, .int .i64 r.c, .int .i64 r.d]] W' fun x w' => x = .returned (.tuple #[.int .i64 d, .int .i64 n, .agg #[.int .i64 s.a, .int .i64 s.b, .int .i64 s.c, .int .i64 s.d], .bool true]) ∧ Below W'.heap.size W' w'
  back : p.k ≠ 1 → ∀ W' : World, Calls Try.prog 75 #[.agg #[.int .i64 p.k, .int .i64 p.d, .int .i64 p.n, .int .u8 (p.b : Int)], .int .i64 hv, .agg #[.int .i64 r.a, .int .i64 r.b, .int .i64 r.c, .int .i64 r.d]] W' fun x w' => x = .returned (.tuple #[.int .i64 d, .int .i64 n, .agg #[.int .i64 s.a, .int .i64 s.b, .int .i64 s.c, .int .i64 s.d], .bool true]) ∧ Below W'.heap.size W' w'
  lit : p.k = 1 → d = 0 ∧ n = 1 ∧ s = r
  two : ∀ W' : World, Calls Try.prog 71 #[.agg #[.int .i64 p.k, .int .i64 p.d, .int .i64 p.n, .int .u8 (p.b : Int)], .int .i64 (-1), .agg #[.int .i64 s.a, .int .i64 s.b, .int .i64 s.c, .int .i64 s.d]] W' fun x w' => x = .returned (.tuple #[.int .i64 d2, .int .i64 n2, .agg #[.int .i64 s2.a, .int .i64 s2.b, .int .i64 s2.c, .int .i64 s2.d], .bool ok2]) ∧ Below W'.heap.size W' w'
  stay : p.k ≠ 1 → ok2 = false ∧ s2 = s
theorem fit_calls {p : Pt} {hv d n : Int} {r s : Rp} (hf : p.fit hv r = some (d, n, s)) (hs : s.pos) : ∃ d2 n2 s2 ok2, FitC p hv d n r s d2 n2 s2 ok2 := by
  obtain ⟨d2, n2, s2, e2, h2⟩ := fit_form p (-1) s
  have h1 := fun W' => fits_any p hv r W'
  have h3 := fun W' => fits_any p (-1) s W'
  rw [hf] at h1
  rw [e2] at h3
  refine ⟨d2, n2, s2, (p.fit (-1) s).isSome, h1, fun hk W' => (back_fit p hv r W' hk).mono ?_, fun hk => ?_, h3, fun hk => ?_⟩
  · rintro x w' ⟨d', n', s', ⟨rfl, hb⟩, hy⟩
    have := hy _ hf
    simp only [Prod.mk.injEq] at this
    obtain ⟨rfl, rfl, rfl⟩ := this
    rw [hf]
    exact ⟨rfl, hb⟩
  · rcases fit_form2 hf with ⟨_, h⟩ | ⟨h, _⟩ | ⟨h, _⟩ | ⟨h, _⟩
    · unfold Pt.fit at hf
      split at hf
      · cases hf
      · simp only [Option.some.injEq, Prod.mk.injEq] at hf
        exact ⟨hf.1.symm, hf.2.1.symm, hf.2.2.symm⟩
    · omega
    · omega
    · omega
  · have hn := fit_neg hk hs
    rw [hn] at e2 ⊢
    refine ⟨rfl, ?_⟩
    unfold fitVal at e2
    simp only [Rp.val, Value.tuple.injEq, Array.mk.injEq, List.cons.injEq, Value.agg.injEq, Value.int.injEq] at e2
    obtain ⟨_, _, ⟨⟨_, a⟩, ⟨_, b⟩, ⟨_, c⟩, ⟨_, d⟩, _⟩, _⟩ := e2
    cases s; cases s2; simp_all
/-- Behind the two answers. -/
structure Two (wr wc : World) (R X Y : Nat) (r s y : Rp) : Prop where
  below : Below wr.heap.size wr wc
  hX : wr.heap.size ≤ X
  hY : wr.heap.size ≤ Y
  reps : wc.heap[R]? = some (.cells #[.int .i64 r.a, .int .i64 r.b, .int .i64 r.c, .int .i64 r.d] 77 (0, 0))
  cX : wc.heap[X]? = some (.cells #[.int .i64 s.a, .int .i64 s.b, .int .i64 s.c, .int .i64 s.d] 78 (0, 0))
  cY : wc.heap[Y]? = some (.cells #[.int .i64 y.a, .int .i64 y.b, .int .i64 y.c, .int .i64 y.d] 77 (0, 0))
theorem two_new {wr wc : World} {R X : Nat} {r s : Rp} (h : Fitted wr wc X s) (hR : R < wr.heap.size) (hr : wr.heap[R]? = some (.cells #[.int .i64 r.a, .int .i64 r.b, .int .i64 r.c, .int .i64 r.d] 77 (0, 0))) :
    Two wr (wc.alloc (.cells #[.int .i64 r.a, .int .i64 r.b, .int .i64 r.c, .int .i64 r.d] 77)) R X wc.heap.size r s r :=
  ⟨h.1.alloc h.1.size _, h.2.1, h.1.size, by rw [Below.heap_alloc _ _ _ (by have := h.1.size; omega), h.1.block R hR, hr], by rw [Below.heap_alloc _ _ _ (lt_of_heap h.2.2), h.2.2], heap_alloc_new _ _⟩
theorem Two.set {wr wc wf : World} {R X Y : Nat} {r s y : Rp} (h : Two wr wc R X Y r s y) (hb : Below wc.heap.size wc wf) (hR : R < wr.heap.size) (z : Rp) :
    Two wr ((((wf.setCell ⟨Y, 0, none⟩ (.int .i64 z.a)).setCell ⟨Y, 1, none⟩ (.int .i64 z.b)).setCell ⟨Y, 2, none⟩ (.int .i64 z.c)).setCell ⟨Y, 3, none⟩ (.int .i64 z.d)) R X Y r s z := by
  have hXY : X ≠ Y := by
    rintro rfl
    have := h.cX
    rw [h.cY] at this
    simp at this
  have o : ∀ k, k ≠ Y → ((((wf.setCell ⟨Y, 0, none⟩ (.int .i64 z.a)).setCell ⟨Y, 1, none⟩ (.int .i64 z.b)).setCell ⟨Y, 2, none⟩ (.int .i64 z.c)).setCell ⟨Y, 3, none⟩ (.int .i64 z.d)).heap[k]? = wf.heap[k]? := fun k hk => by
    rw [Below.heap_setCell _ _ _ _ (by exact hk), Below.heap_setCell _ _ _ _ (by exact hk), Below.heap_setCell _ _ _ _ (by exact hk), Below.heap_setCell _ _ _ _ (by exact hk)]
  refine ⟨below_four (h.below.trans (hb.mono h.below.size)) h.hY _ _ _ _, h.hX, h.hY, ?_, ?_, ?_⟩
  · rw [o R (by have := h.hY; omega), hb.block R (by have := h.below.size; omega), h.reps]
  · rw [o X hXY, hb.block X (lt_of_heap h.cX), h.cX]
  · exact four_set ((hb.block Y (lt_of_heap h.cY)).trans h.cY) _ _ _ _
theorem Two.drew {wr wc : World} {R X Y : Nat} {r s y : Rp} (h : Two wr wc R X Y r s y) : Two wr wc.drew R X Y r s y := ⟨bel_drew h.below, h.hX, h.hY, h.reps, h.cX, h.cY⟩
theorem bel_from_drew {W W' : World} (h : Below W.drew.heap.size W.drew W') : Below W.heap.size W W' := ⟨h.os, h.tape, h.output, h.size, h.block⟩
set_option maxRecDepth 100000 in
set_option maxHeartbeats 4000000 in
theorem fits_law {W : World} {a b : Option Addr} {ps : List Pt} (ha : IsPts W a ps) (hb : IsPts W b ps) (hl : ps.length ≤ 60) (ca cb most : Nat) (t : List UInt8) (ht : applyL most ps [] ⟨1, 1, 1, 1⟩ = (t, 0)) :
    Calls Try.prog 40 #[.slice a ps.length ca, .slice b ps.length cb] W fun x w' => x = .returned (.bool true) ∧ Below W.heap.size W w' := by
  have HA := Lib.hid ha
  have HB := Lib.hid hb
  have HT := Lib.hid ht
  clear ha hb ht
  go_enter Try.func40, Try.ntmps40
  go_wp2_with fail
  have HL0 : Hid (FitL W (W.alloc (.cells #[.int .i64 1, .int .i64 1, .int .i64 1, .int .i64 1] 77)) W.heap.size most t ps [] ⟨1, 1, 1, 1⟩) := Lib.hid ⟨(Below.refl _ _).alloc (Nat.le_refl _) _, heap_alloc_new _ _, Nat.le_refl _, by unfold Rp.pos; simp, HT.out⟩
  generalize W.alloc (.cells #[.int .i64 1, .int .i64 1, .int .i64 1, .int .i64 1] 77) = W3 at *
  generalize hRe : W.heap.size = R at *
  clear hRe
  go_loopw [5, 7] (fun v i wr => ∃ k : Nat, k ≤ ps.length ∧ i = .int .i64 k ∧ ∃ l r, v = .int .i64 (l.length : Int) ∧ l.length ≤ k * 273 ∧ FitL W wr R most t (ps.drop k) l r) (fun _ i _ => ps.length - (intOf i).toNat)
  case atStart => exact ⟨0, by omega, rfl, [], _, rfl, by simp, HL0.out⟩
  case round =>
    clear HL0
    obtain ⟨k, hk, rfl, l, r, rfl, hlk, hL⟩ := hrel
    by_cases hlt : k < ps.length
    · rcases HA.out with he | ⟨xa, oa, rfl, hca⟩
      · rw [he] at hlt; simp at hlt
      · rcases HB.out with he | ⟨xb, ob, rfl, hcb⟩
        · rw [he] at hlt; simp at hlt
        · have hpa := (hca k hlt).below hL.below
          have hpb := (hcb k hlt).below hL.below
          have hres := hL.res
          rw [List.drop_eq_getElem_cons hlt] at hres
          have hab := World.block_lt_of_cell? _ _ hpa.1
          have hbb := World.block_lt_of_cell? _ _ hpb.1
          have HPW := Lib.hid (hca k hlt)
          have HQW := Lib.hid (hcb k hlt)
          have HPA := Lib.hid hpa
          have HPB := Lib.hid hpb
          clear hca hcb hpa hpb
          generalize ps[k] = p at *
          obtain ⟨d, n, s, l', hf, hsp, hn0, hn1, hl', hres'⟩ := fit_go hres hL.pos
          obtain ⟨d2, n2, s2, ok2, hC⟩ := fit_calls hf hsp
          have HC := Lib.hid hC
          have HL := Lib.hid hL
          have HR := Lib.hid hres'
          have HL' := Lib.hid hl'
          clear hC hL hres hres' hf hl'
          obtain ⟨⟨r0, r1, r2, r3⟩, _, hRl⟩ := four HL.out.reps
          obtain ⟨p0, p1, p2, p3, hpbt⟩ := HPA.out
          obtain ⟨q0, q1, q2, q3, _⟩ := HPB.out
          go_upto_region 6 with (fail)
          go_cut [8, 9, 10, 11] (fun d' n' p' ok' wc => ∃ X, d' = .int .i64 d ∧ n' = .int .i64 n ∧ p' = .pointer (some ⟨X, 0, none⟩) ∧ ok' = .bool true ∧ Fitted wr wc X s)
          case first =>
            as_aux_lemma =>
            -- BEGIN one
            have HS : Hid (∀ W' : World, Below wr.heap.size wr W' → Below wr.heap.size wr W' ∧ (W'.cell? ⟨xa, oa + k * 4, none⟩ = some (.int .i64 p.k) ∧ W'.cell? ⟨xa, oa + k * 4 + 1, none⟩ = some (.int .i64 p.d) ∧ W'.cell? ⟨xa, oa + k * 4 + 2, none⟩ = some (.int .i64 p.n) ∧ W'.cell? ⟨xa, oa + k * 4 + 3, none⟩ = some (.int .u8 (p.b : Int))) ∧ (W'.cell? ⟨R, 0, none⟩ = some (.int .i64 r.a) ∧ W'.cell? ⟨R, 1, none⟩ = some (.int .i64 r.b) ∧ W'.cell? ⟨R, 2, none⟩ = some (.int .i64 r.c) ∧ W'.cell? ⟨R, 3, none⟩ = some (.int .i64 r.d))) :=
              Lib.hid fun W' hb => ⟨hb, ⟨(hb.cell (p := ⟨xa, oa + k * 4, none⟩) hab).trans HPA.out.1, (hb.cell (p := ⟨xa, oa + k * 4 + 1, none⟩) hab).trans HPA.out.2.1, (hb.cell (p := ⟨xa, oa + k * 4 + 2, none⟩) hab).trans HPA.out.2.2.1, (hb.cell (p := ⟨xa, oa + k * 4 + 3, none⟩) hab).trans HPA.out.2.2.2.1⟩, (four ((hb.block R hRl).trans HL.out.reps)).1⟩
            go_region_held3 (fun W' => Below wr.heap.size wr W' ∧ (W'.cell? ⟨xa, oa + k * 4, none⟩ = some (.int .i64 p.k) ∧ W'.cell? ⟨xa, oa + k * 4 + 1, none⟩ = some (.int .i64 p.d) ∧ W'.cell? ⟨xa, oa + k * 4 + 2, none⟩ = some (.int .i64 p.n) ∧ W'.cell? ⟨xa, oa + k * 4 + 3, none⟩ = some (.int .u8 (p.b : Int))) ∧ (W'.cell? ⟨R, 0, none⟩ = some (.int .i64 r.a) ∧ W'.cell? ⟨R, 1, none⟩ = some (.int .i64 r.b) ∧ W'.cell? ⟨R, 2, none⟩ = some (.int .i64 r.c) ∧ W'.cell? ⟨R, 3, none⟩ = some (.int .i64 r.d))) ((refine HS.out _ ?_; repeat (first | assumption | exact Below.refl _ _ | refine bel_drew ?_ | refine bel_alloc _ ?_ | (refine bel_set _ (by simp; omega) ?_) | (refine bel_set _ (by simp) ?_) | (refine bel_set _ (by assumption) ?_) | (refine bel_new (by assumption) ?_)))) (first | (go_at_call 71; (with_reducible refine (HC.out.one _).mono ?_); rintro x wf ⟨rfl, hbf⟩; have hzf := hbf.size; (try simp at hzf); (try have _t0 : wr.heap.size < wf.heap.size := by omega); (try (have _hk := alloc_kept2 hbf; obtain ⟨⟨_, _, _, _⟩, ⟨_, _, _, _⟩, _⟩ := four _hk))))
            all_goals
              go_wp2_with fail
              go_meet
              refine ⟨_, rfl, rfl, rfl, rfl, ?_⟩
              first
              | (with_reducible refine fitted_new ?_ s)
              | (with_reducible refine fitted_set (z0 := .int .i64 0) (z1 := .int .i64 0) (z2 := .int .i64 0) (z3 := .int .i64 0) ?_ ?_ ?_ s)
              all_goals (repeat (first | assumption | exact Nat.le_refl _ | exact Below.refl _ _ | refine bel_drew ?_ | refine bel_alloc _ ?_ | (refine bel_new (by assumption) ?_)))
            -- END one
          case rest =>
            obtain ⟨X, rfl, rfl, rfl, rfl, hfit⟩ := hcut
            have HF := Lib.hid hfit
            have HRc := Lib.hid ((hfit.1.block R hRl).trans HL.out.reps)
            obtain ⟨⟨r0', r1', r2', r3'⟩, _, hRl'⟩ := four HRc.out
            clear hfit r0 r1 r2 r3 p0 p1 p2 p3 q0 q1 q2 q3
            go_upto_region 7 with (fail)
            go_cut [12, 13, 14, 15] (fun d' n' p' ok' wd => ∃ Y, d' = .int .i64 0 ∧ n' = .int .i64 1 ∧ p' = .pointer (some ⟨Y, 0, none⟩) ∧ ok' = .bool true ∧ Two wr wd R X Y r s r)
            case first =>
              as_aux_lemma =>
              -- BEGIN two
              have HZ := Lib.hid (two_new HF.out hRl HL.out.reps)
              go_region
              all_goals
                go_wp2_with fail
                go_meet
                refine ⟨_, rfl, rfl, rfl, rfl, ?_⟩
                first
                | exact HZ.out
                | exact HZ.out.drew
              -- END two
            case rest =>
              obtain ⟨Y, rfl, rfl, rfl, rfl, h2⟩ := hcut
              have H2 := Lib.hid h2
              clear h2 hRl' r0' r1' r2' r3' HRc HF
              have hwd : wr.heap.size ≤ wc.heap.size := H2.out.below.size
              have HPD := Lib.hid (HPB.out.below H2.out.below)
              obtain ⟨q0, q1, q2, q3, _⟩ := HPD.out
              go_upto_if 45 with (fail)
              go_cut [12, 13, 15] (fun d' n' ok' we => d' = .int .i64 d ∧ n' = .int .i64 n ∧ ok' = .bool true ∧ Two wr we R X Y r s s)
              case first =>
                as_aux_lemma =>
                -- BEGIN three
                by_cases hk1 : p.k = 1
                · have e1 : (p.k != 1) = false := by simpa using hk1
                  have HLT := Lib.hid (HC.out.lit hk1)
                  clear hk1
                  go_wp2_with fail
                  go_meet
                  obtain ⟨rfl, rfl, hs⟩ := HLT.out
                  exact ⟨rfl, rfl, rfl, by have := H2.out; rw [hs] at this ⊢; exact this⟩
                · have e1 : (p.k != 1) = true := by simpa using hk1
                  have HBK := Lib.hid (HC.out.back hk1)
                  clear hk1
                  obtain ⟨⟨r0, r1, r2, r3⟩, _, hRw⟩ := four H2.out.reps
                  have hbw : xb < wc.heap.size := Nat.lt_of_lt_of_le hbb hwd
                  have hYl := lt_of_heap H2.out.cY
                  have HYe := Lib.hid H2.out.cY
                  go_upto_region 9 with (fail)
                  have hRwr : R < wr.heap.size := hRl
                  have hHB := H2.out.below
                  have hHY := H2.out.hY
                  have HSW : Hid (∀ W' : World, Below wr.heap.size wr W' → Below wr.heap.size wr W' ∧ (W'.cell? ⟨xb, ob + k * 4, none⟩ = some (.int .i64 p.k) ∧ W'.cell? ⟨xb, ob + k * 4 + 1, none⟩ = some (.int .i64 p.d) ∧ W'.cell? ⟨xb, ob + k * 4 + 2, none⟩ = some (.int .i64 p.n) ∧ W'.cell? ⟨xb, ob + k * 4 + 3, none⟩ = some (.int .u8 (p.b : Int))) ∧ (W'.cell? ⟨R, 0, none⟩ = some (.int .i64 r.a) ∧ W'.cell? ⟨R, 1, none⟩ = some (.int .i64 r.b) ∧ W'.cell? ⟨R, 2, none⟩ = some (.int .i64 r.c) ∧ W'.cell? ⟨R, 3, none⟩ = some (.int .i64 r.d))) :=
                    Lib.hid fun W' hb => ⟨hb, ⟨(hb.cell (p := ⟨xb, ob + k * 4, none⟩) hbb).trans HPB.out.1, (hb.cell (p := ⟨xb, ob + k * 4 + 1, none⟩) hbb).trans HPB.out.2.1, (hb.cell (p := ⟨xb, ob + k * 4 + 2, none⟩) hbb).trans HPB.out.2.2.1, (hb.cell (p := ⟨xb, ob + k * 4 + 3, none⟩) hbb).trans HPB.out.2.2.2.1⟩, (four ((hb.block R hRl).trans HL.out.reps)).1⟩
                  go_region_held3 (fun W' => Below wr.heap.size wr W' ∧ (W'.cell? ⟨xb, ob + k * 4, none⟩ = some (.int .i64 p.k) ∧ W'.cell? ⟨xb, ob + k * 4 + 1, none⟩ = some (.int .i64 p.d) ∧ W'.cell? ⟨xb, ob + k * 4 + 2, none⟩ = some (.int .i64 p.n) ∧ W'.cell? ⟨xb, ob + k * 4 + 3, none⟩ = some (.int .u8 (p.b : Int))) ∧ (W'.cell? ⟨R, 0, none⟩ = some (.int .i64 r.a) ∧ W'.cell? ⟨R, 1, none⟩ = some (.int .i64 r.b) ∧ W'.cell? ⟨R, 2, none⟩ = some (.int .i64 r.c) ∧ W'.cell? ⟨R, 3, none⟩ = some (.int .i64 r.d))) ((refine HSW.out _ ?_; repeat (first | assumption | exact Below.refl _ _ | refine bel_drew ?_ | refine bel_alloc _ ?_ | (refine bel_set _ (by simp; omega) ?_) | (refine bel_set _ (by simp) ?_) | (refine bel_set _ (by assumption) ?_) | (refine bel_new (by assumption) ?_)))) (first | (go_at_call 75; (with_reducible refine (HBK.out _).mono ?_); rintro x wf ⟨rfl, hbf⟩; have hyf := (hbf.block Y hYl).trans HYe.out; obtain ⟨⟨_, _, _, _⟩, ⟨_, _, _, _⟩, _⟩ := four hyf))
                  all_goals
                    go_wp2_with fail
                    go_meet
                    refine ⟨rfl, rfl, rfl, ?_⟩
                    exact H2.out.set (bel_from_drew (by assumption)) hRl s
                -- END three
              case rest =>
                obtain ⟨rfl, rfl, rfl, h3⟩ := hcut
                have H3 := Lib.hid h3
                clear h3 H2 HPD q0 q1 q2 q3 hwd
                obtain ⟨⟨r0, r1, r2, r3⟩, ⟨f0, f1, f2, f3⟩, hRw⟩ := four H3.out.reps
                obtain ⟨⟨x0, x1, x2, x3⟩, _, hXw⟩ := four H3.out.cX
                obtain ⟨⟨y0, y1, y2, y3⟩, _, hYw⟩ := four H3.out.cY
                have hq1 : ∀ w : World, (Op.equalIn 10000 77 (.agg #[.int .i64 s.a, .int .i64 s.b, .int .i64 s.c, .int .i64 s.d]) (.agg #[.int .i64 s.a, .int .i64 s.b, .int .i64 s.c, .int .i64 s.d])).run Try.prog w = .ok true w := eq_deep 9998 _ _ _ _
                have hd1 : (d != d) = false := by simp
                have hn1' : (n != n) = false := by simp
                have hsum : (l.length : Int) + n = (l'.length : Int) := by have := HL'.out; omega
                have HSUM := Lib.hid hsum
                have hll : l'.length ≤ (k + 1) * 273 := by omega
                clear hsum
                have h5 := H3.out.below.trans (Below.refl _ _)
                have HE5 : Hid (Below W.heap.size W ((((wc.setCell ⟨R, 0, none⟩ (.int .i64 s.a)).setCell ⟨R, 1, none⟩ (.int .i64 s.b)).setCell ⟨R, 2, none⟩ (.int .i64 s.c)).setCell ⟨R, 3, none⟩ (.int .i64 s.d))) := Lib.hid (below_four (HL.out.below.trans (H3.out.below.mono HL.out.below.size)) HL.out.ge _ _ _ _)
                have HR5 := Lib.hid (four_set H3.out.reps (.int .i64 s.a) (.int .i64 s.b) (.int .i64 s.c) (.int .i64 s.d))
                have HP5 : Hid (IsPt ((((wc.setCell ⟨R, 0, none⟩ (.int .i64 s.a)).setCell ⟨R, 1, none⟩ (.int .i64 s.b)).setCell ⟨R, 2, none⟩ (.int .i64 s.c)).setCell ⟨R, 3, none⟩ (.int .i64 s.d)) xa (oa + k * 4) p) := Lib.hid (HPW.out.below HE5.out)
                clear h5
                go_upto_region 14 with (fail)
                generalize ((((wc.setCell ⟨R, 0, none⟩ (.int .i64 s.a)).setCell ⟨R, 1, none⟩ (.int .i64 s.b)).setCell ⟨R, 2, none⟩ (.int .i64 s.c)).setCell ⟨R, 3, none⟩ (.int .i64 s.d)) = w5 at *
                clear r0 r1 r2 r3 f0 f1 f2 f3 x0 x1 x2 x3 y0 y1 y2 y3 hRw hXw hYw H3
                obtain ⟨⟨r0, r1, r2, r3⟩, _, hRw⟩ := four HR5.out
                obtain ⟨p0, p1, p2, p3, _⟩ := HP5.out
                have ha5 := World.block_lt_of_cell? _ _ p0
                go_cut [18, 19] (fun z' ok' we => ∃ Z, z' = .pointer (some ⟨Z, 0, none⟩) ∧ ok' = .bool ok2 ∧ Fitted w5 we Z s2)
                case first =>
                  as_aux_lemma =>
                  -- BEGIN four
                  have HS : Hid (∀ W' : World, Below w5.heap.size w5 W' → Below w5.heap.size w5 W' ∧ (W'.cell? ⟨xa, oa + k * 4, none⟩ = some (.int .i64 p.k) ∧ W'.cell? ⟨xa, oa + k * 4 + 1, none⟩ = some (.int .i64 p.d) ∧ W'.cell? ⟨xa, oa + k * 4 + 2, none⟩ = some (.int .i64 p.n) ∧ W'.cell? ⟨xa, oa + k * 4 + 3, none⟩ = some (.int .u8 (p.b : Int))) ∧ (W'.cell? ⟨R, 0, none⟩ = some (.int .i64 s.a) ∧ W'.cell? ⟨R, 1, none⟩ = some (.int .i64 s.b) ∧ W'.cell? ⟨R, 2, none⟩ = some (.int .i64 s.c) ∧ W'.cell? ⟨R, 3, none⟩ = some (.int .i64 s.d))) :=
                    Lib.hid fun W' hb => ⟨hb, ⟨(hb.cell (p := ⟨xa, oa + k * 4, none⟩) ha5).trans HP5.out.1, (hb.cell (p := ⟨xa, oa + k * 4 + 1, none⟩) ha5).trans HP5.out.2.1, (hb.cell (p := ⟨xa, oa + k * 4 + 2, none⟩) ha5).trans HP5.out.2.2.1, (hb.cell (p := ⟨xa, oa + k * 4 + 3, none⟩) ha5).trans HP5.out.2.2.2.1⟩, (four ((hb.block R hRw).trans HR5.out)).1⟩
                  go_region_held3 (fun W' => Below w5.heap.size w5 W' ∧ (W'.cell? ⟨xa, oa + k * 4, none⟩ = some (.int .i64 p.k) ∧ W'.cell? ⟨xa, oa + k * 4 + 1, none⟩ = some (.int .i64 p.d) ∧ W'.cell? ⟨xa, oa + k * 4 + 2, none⟩ = some (.int .i64 p.n) ∧ W'.cell? ⟨xa, oa + k * 4 + 3, none⟩ = some (.int .u8 (p.b : Int))) ∧ (W'.cell? ⟨R, 0, none⟩ = some (.int .i64 s.a) ∧ W'.cell? ⟨R, 1, none⟩ = some (.int .i64 s.b) ∧ W'.cell? ⟨R, 2, none⟩ = some (.int .i64 s.c) ∧ W'.cell? ⟨R, 3, none⟩ = some (.int .i64 s.d))) ((refine HS.out _ ?_; repeat (first | assumption | exact Below.refl _ _ | refine bel_drew ?_ | refine bel_alloc _ ?_ | (refine bel_set _ (by simp; omega) ?_) | (refine bel_set _ (by simp) ?_) | (refine bel_set _ (by assumption) ?_) | (refine bel_new (by assumption) ?_)))) (first | (go_at_call 71; (with_reducible refine (HC.out.two _).mono ?_); rintro x wf ⟨rfl, hbf⟩; have hzf := hbf.size; (try simp at hzf); (try have _t0 : w5.heap.size < wf.heap.size := by omega); (try (have _hk := alloc_kept2 hbf; obtain ⟨⟨_, _, _, _⟩, ⟨_, _, _, _⟩, _⟩ := four _hk))))
                  all_goals
                    go_wp2_with fail
                    go_meet
                    refine ⟨_, rfl, rfl, ?_⟩
                    first
                    | (with_reducible refine fitted_new ?_ s2)
                    | (with_reducible refine fitted_set (z0 := .int .i64 0) (z1 := .int .i64 0) (z2 := .int .i64 0) (z3 := .int .i64 0) ?_ ?_ ?_ s2)
                    all_goals (repeat (first | assumption | exact Nat.le_refl _ | exact Below.refl _ _ | refine bel_drew ?_ | refine bel_alloc _ ?_ | (refine bel_new (by assumption) ?_)))
                  -- END four
                case rest =>
                  -- BEGIN five
                  obtain ⟨Z, rfl, rfl, hfit2⟩ := hcut
                  have HRD := Lib.hid ((hfit2.1.block R hRw).trans HR5.out)
                  have HZD := Lib.hid hfit2.2.2
                  have HBD := Lib.hid (HE5.out.trans (hfit2.1.mono HE5.out.size))
                  have HPD := Lib.hid (HQW.out.below HBD.out)
                  have HNEW : Hid (FitL W wc R most t (List.drop (k + 1) ps) l' s) := Lib.hid ⟨HBD.out, HRD.out, HL.out.ge, hsp, HR.out⟩
                  clear hfit2 HL HP5 HE5 HR5 p0 p1 p2 p3 r0 r1 r2 r3
                  obtain ⟨q0, q1, q2, q3, _⟩ := HPD.out
                  by_cases hk1 : p.k = 1
                  · have e1 : (p.k != 1) = false := by simpa using hk1
                    go_wp2_with fail
                    go_roundw
                    case rel => exact ⟨k + 1, by omega, by go_num, l', s, by rw [HSUM.out], hll, HNEW.out⟩
                    case measure => simp [intOf]; omega
                  · have e1 : (p.k != 1) = true := by simpa using hk1
                    obtain ⟨ho, hs2⟩ := HC.out.stay hk1
                    rw [hs2] at HZD
                    subst ho
                    obtain ⟨⟨r0, r1, r2, r3⟩, _, _⟩ := four HRD.out
                    obtain ⟨⟨z0, z1, z2, z3⟩, _, _⟩ := four HZD.out
                    go_wp2_with fail
                    go_roundw
                    case rel => exact ⟨k + 1, by omega, by go_num, l', s, by rw [HSUM.out], hll, HNEW.out⟩
                    case measure => simp [intOf]; omega
                  -- END five
    · obtain rfl : k = ps.length := by omega
      have HB := Lib.hid hL.below
      clear hL
      go_wp2_with fail
      go_ret
      exact ⟨rfl, HB.out⟩
end Go.Proofs.Ythejbnodalnnpaa.Pk
