/-
  Package packet: the contract of Apply.
-/
import Derived.Test.YthejbnodalnnpaaPackApplyBase
import Derived.Deep.DeepCutAuto
import Derived.Deep.CutBlock
import Derived.Deep.RegionHeld3
namespace Go.Proofs.Ythejbnodalnnpaa.Pk
open Go.RowKit
open Wnd (Win Grew Owns copied)
/-- What Fits tells, in one form. -/
theorem fit_form (p : Pt) (hv : Int) (r : Rp) : ∃ d n s, fitVal r (p.fit hv r) = .tuple #[.int .i64 d, .int .i64 n, .agg #[.int .i64 s.a, .int .i64 s.b, .int .i64 s.c, .int .i64 s.d], .bool (p.fit hv r).isSome] ∧ ∀ x, p.fit hv r = some x → x = (d, n, s) := by
  cases h : p.fit hv r with
  | none => exact ⟨0, 0, r, rfl, fun x hx => by cases hx⟩
  | some x =>
    obtain ⟨d, n, s⟩ := x
    exact ⟨d, n, s, rfl, fun y hy => by cases hy; rfl⟩
theorem applyL_none {most : Nat} {p : Pt} {ps : List Pt} {l : List UInt8} {r : Rp} (h : p.fit (l.length : Int) r = none) : applyL most (p :: ps) l r = ([], 6) := by unfold applyL; rw [h]
theorem applyL_long {most : Nat} {p : Pt} {ps : List Pt} {l : List UInt8} {r : Rp} {d n : Int} {s : Rp} (h : p.fit (l.length : Int) r = some (d, n, s)) (ht : p.tell most l d n = none) : applyL most (p :: ps) l r = ([], 11) := by unfold applyL; rw [h]; simp only [ht]
theorem applyL_more {most : Nat} {p : Pt} {ps : List Pt} {l l' : List UInt8} {r : Rp} {d n : Int} {s : Rp} (h : p.fit (l.length : Int) r = some (d, n, s)) (ht : p.tell most l d n = some l') : applyL most (p :: ps) l r = applyL most ps l' s := by rw [applyL, h]; simp only [ht]
def ApAt (W : World) (B R most : Nat) (ps : List Pt) (k : Nat) (w : World) : Prop :=
  ∃ v l r, ApLock W w B R most v l r ∧ l.length ≤ k * 273 ∧ applyL most (ps.drop k) l r = applyL most ps [] ⟨1, 1, 1, 1⟩
theorem alloc_kept2 {W w' : World} {o : Obj} (h : Below (W.alloc o).drew.heap.size (W.alloc o).drew w') : w'.heap[W.heap.size]? = some o :=
  (h.block W.heap.size (by simp)).trans (heap_alloc_new W o)
set_option maxRecDepth 100000 in
set_option maxHeartbeats 4000000 in
theorem apply_more {W : World} {ps : List Pt} {b off : Nat} (hc : ∀ i (h : i < ps.length), IsPt W b (off + i * 4) ps[i]) (hn : 0 < ps.length) (hl : ps.length ≤ 1000) (cap : Nat) (m : Int) (hm : m ≤ 9223372036854775807) :
    Calls Try.prog 36 #[.slice (some ⟨b, off, none⟩) ps.length cap, .int .i64 m] W fun x w' => x = .returned (.tuple #[.string ⟨(applyL m.toNat ps [] ⟨1, 1, 1, 1⟩).1.toArray⟩, .int .i64 ((applyL m.toNat ps [] ⟨1, 1, 1, 1⟩).2 : Int)]) ∧ Below W.heap.size W w' := by
  have HC := Lib.hid hc
  have hbl : b < W.heap.size := World.block_lt_of_cell? _ _ (hc 0 hn).1
  have hmm := Lib.hid (show m.toNat ≤ 9223372036854775807 by omega)
  clear hc
  go_enter Try.func36, Try.ntmps36
  go_wp2_with fail
  refine (Wnd.new_any m W).mono ?_
  rintro x w1 ⟨rfl, hw1⟩
  have HW1 := Lib.hid (show Win w1 W.heap.size (.slice none 0 0) m.toNat [] from by rw [hw1]; exact Wnd.win_new W m.toNat)
  have HB1 := Lib.hid (show Below W.heap.size W w1 from by rw [hw1]; exact (Below.refl _ _).alloc (Nat.le_refl _) _)
  clear hw1
  go_wp2_with fail
  refine (show Calls Try.prog 46 #[] w1 fun x w' => x = .returned (.agg #[.int .i64 1, .int .i64 1, .int .i64 1, .int .i64 1]) ∧ Below w1.heap.size w1 w' from first_any w1).mono ?_
  rintro x w2 ⟨rfl, hb2⟩
  have HL2 := Lib.hid (show ApLock W (w2.alloc (.cells #[.int .i64 1, .int .i64 1, .int .i64 1, .int .i64 1] 78 (0, 0))) W.heap.size w2.heap.size m.toNat (.slice none 0 0) [] ⟨1, 1, 1, 1⟩ from
    ⟨bel_alloc _ (bel_new hb2 HB1.out), win_alloc (HW1.out.frame (own := fun _ => False) (Frame.of_below_size hb2) (fun _ _ => id)) _, Nat.le_refl _, (bel_new hb2 HB1.out).size, by have := HW1.out.lt; have := hb2.size; omega, by simp [Value.ownBlock], heap_alloc_new _ _, by simp, by unfold Rp.pos; simp⟩)
  clear hb2 HB1 HW1
  go_wp2_with fail
  generalize hW3 : w2.alloc (.cells #[.int .i64 1, .int .i64 1, .int .i64 1, .int .i64 1] 78 (0, 0)) = W3 at *
  generalize w2.heap.size = R at *
  clear hW3
  go_loopw [19] (fun i wr => ∃ k : Nat, k ≤ ps.length ∧ i = .int .i64 k ∧ ApAt W W.heap.size R m.toNat ps k wr) (fun i _ => ps.length - (intOf i).toNat)
  case atStart => exact ⟨0, by omega, rfl, _, _, _, HL2.out, by simp, by simp⟩
  case round =>
    clear HL2
    obtain ⟨k, hk, rfl, v, l, r, hL, hlen, hres⟩ := hrel
    by_cases hlt : k < ps.length
    · have HA := Lib.hid (show applyL m.toNat (ps[k] :: ps.drop (k + 1)) l r = applyL m.toNat ps [] ⟨1, 1, 1, 1⟩ from by rw [← hres, List.drop_eq_getElem_cons hlt])
      have hpt := (HC.out k hlt).below hL.below
      generalize ps[k] = p at *
      obtain ⟨p0, p1, p2, p3, hpb⟩ := hpt
      have HL := Lib.hid hL
      clear hL hres
      go_upto_region 6 with (fail)
      have HL1 := Lib.hid (HL.out.news ((Below.refl _ _).alloc (Nat.le_refl _) (.cells #[.int .i64 p.k, .int .i64 p.d, .int .i64 p.n, .int .u8 (p.b : Int)] 74 (0, 0))))
      have hP := heap_alloc_new wr (.cells #[.int .i64 p.k, .int .i64 p.d, .int .i64 p.n, .int .u8 (p.b : Int)] 74 (0, 0))
      generalize wr.heap.size = P at *
      generalize wr.alloc (.cells #[.int .i64 p.k, .int .i64 p.d, .int .i64 p.n, .int .u8 (p.b : Int)] 74 (0, 0)) = W1 at *
      clear HL p0 p1 p2 p3
      have HP := Lib.hid hP
      obtain ⟨⟨x0, x1, x2, x3⟩, _, hPl⟩ := four hP
      obtain ⟨⟨r0, r1, r2, r3⟩, _, hRl⟩ := four HL1.out.reps
      have HFT : Hid (∃ d n s, (∀ W' : World, Calls Try.prog 71 #[.agg #[.int .i64 p.k, .int .i64 p.d, .int .i64 p.n, .int .u8 (p.b : Int)], .int .i64 (l.length : Int), .agg #[.int .i64 r.a, .int .i64 r.b, .int .i64 r.c, .int .i64 r.d]] W' fun x w' => x = .returned (.tuple #[.int .i64 d, .int .i64 n, .agg #[.int .i64 s.a, .int .i64 s.b, .int .i64 s.c, .int .i64 s.d], .bool (p.fit (l.length : Int) r).isSome]) ∧ Below W'.heap.size W' w') ∧ ∀ x, p.fit (l.length : Int) r = some x → x = (d, n, s)) := by
        obtain ⟨d, n, s, hf, hd⟩ := fit_form p (l.length : Int) r
        refine Lib.hid ⟨d, n, s, fun W' => ?_, hd⟩
        rw [← hf]
        exact fits_any p (l.length : Int) r W'
      obtain ⟨d, n, s, hft, hd⟩ := HFT.out
      have HD := Lib.hid hd
      have HF := Lib.hid hft
      clear hft hd HFT hP
      have HLN : Hid (∀ W' : World, Below W1.heap.size W1 W' → Calls Try.prog 72 #[.pointer (some ⟨W.heap.size, 0, none⟩)] W' fun e w' => e = .returned (.int .i64 (l.length : Int)) ∧ W' = w') := Lib.hid fun W' hb => Wnd.len_any (HL1.out.news hb).win
      have HS : Hid (∀ W' : World, Below W1.heap.size W1 W' → Below W1.heap.size W1 W' ∧ (W'.cell? ⟨P, 0, none⟩ = some (.int .i64 p.k) ∧ W'.cell? ⟨P, 1, none⟩ = some (.int .i64 p.d) ∧ W'.cell? ⟨P, 2, none⟩ = some (.int .i64 p.n) ∧ W'.cell? ⟨P, 3, none⟩ = some (.int .u8 (p.b : Int))) ∧ (W'.cell? ⟨R, 0, none⟩ = some (.int .i64 r.a) ∧ W'.cell? ⟨R, 1, none⟩ = some (.int .i64 r.b) ∧ W'.cell? ⟨R, 2, none⟩ = some (.int .i64 r.c) ∧ W'.cell? ⟨R, 3, none⟩ = some (.int .i64 r.d))) :=
        Lib.hid fun W' hb => ⟨hb, (four ((hb.block P hPl).trans HP.out)).1, (four ((hb.block R hRl).trans HL1.out.reps)).1⟩
      go_cut [10, 11, 12, 13] (fun d' n' p' ok' wc => ∃ X, d' = .int .i64 d ∧ n' = .int .i64 n ∧ p' = .pointer (some ⟨X, 0, none⟩) ∧ ok' = .bool (p.fit (l.length : Int) r).isSome ∧ Fitted W1 wc X s)
      case first =>
        as_aux_lemma =>
        -- BEGIN first
        go_region_held3 (fun W' => Below W1.heap.size W1 W' ∧ (W'.cell? ⟨P, 0, none⟩ = some (.int .i64 p.k) ∧ W'.cell? ⟨P, 1, none⟩ = some (.int .i64 p.d) ∧ W'.cell? ⟨P, 2, none⟩ = some (.int .i64 p.n) ∧ W'.cell? ⟨P, 3, none⟩ = some (.int .u8 (p.b : Int))) ∧ (W'.cell? ⟨R, 0, none⟩ = some (.int .i64 r.a) ∧ W'.cell? ⟨R, 1, none⟩ = some (.int .i64 r.b) ∧ W'.cell? ⟨R, 2, none⟩ = some (.int .i64 r.c) ∧ W'.cell? ⟨R, 3, none⟩ = some (.int .i64 r.d))) ((refine HS.out _ ?_; repeat (first | assumption | exact Below.refl _ _ | refine bel_drew ?_ | refine bel_alloc _ ?_ | (refine bel_set _ (by simp; omega) ?_) | (refine bel_set _ (by simp) ?_) | (refine bel_new (by assumption) ?_)))) (first | (go_at_call 72; (with_reducible refine (HLN.out _ (And.left (by assumption))).mono ?_); rintro x wl ⟨rfl, rfl⟩) | (go_at_call 71; (with_reducible refine (HF.out _).mono ?_); rintro x wf ⟨rfl, hbf⟩; have hzf := hbf.size; (try simp at hzf); (try have _t0 : W1.heap.size < wf.heap.size := by omega); (try (have _hk := alloc_kept2 hbf; obtain ⟨⟨_, _, _, _⟩, ⟨_, _, _, _⟩, _⟩ := four _hk))))
        all_goals
          go_wp2_with fail
          go_meet
          refine ⟨_, rfl, rfl, rfl, rfl, ?_⟩
          first
          | (with_reducible refine fitted_new ?_ s)
          | (with_reducible refine fitted_set (z0 := .int .i64 0) (z1 := .int .i64 0) (z2 := .int .i64 0) (z3 := .int .i64 0) ?_ ?_ ?_ s)
          all_goals (repeat (first | assumption | exact Nat.le_refl _ | exact Below.refl _ _ | refine bel_drew ?_ | refine bel_alloc _ ?_ | (refine bel_new (by assumption) ?_)))
        -- END first
      case rest =>
        obtain ⟨X, rfl, rfl, rfl, rfl, hfit⟩ := hcut
        have HX := Lib.hid hfit.2.2
        have hXW := Lib.hid hfit.2.1
        have HLc := Lib.hid (HL1.out.news hfit.1)
        have HPc := Lib.hid ((hfit.1.block P hPl).trans HP.out)
        have HNO : Hid (¬ Owns W.heap.size v X) := Lib.hid (by
          rintro (e | e)
          · have := HL1.out.win.lt; have := hXW.out; omega
          · have := ownsRow_lt HL1.out.win.2.1 X e; have := hXW.out; omega)
        clear hfit HP HL1 HF HLN HS x0 x1 x2 x3 r0 r1 r2 r3
        cases hq : p.fit (l.length : Int) r with
        | none =>
          as_aux_lemma =>
          have HRES := Lib.hid ((applyL_none (ps := ps.drop (k + 1)) hq).symm.trans HA.out)
          have HB := Lib.hid HLc.out.below
          clear HA HLc HD
          simp only [Option.isSome_none]
          go_wp2
          go_ret2
          exact ⟨by rw [← HRES.out]; rfl, HB.out⟩
        | some z =>
          as_aux_lemma =>
          obtain rfl := HD.out z hq
          simp only [Option.isSome_some]
          obtain ⟨hsp, hfs⟩ := fit_some hq HLc.out.pos
          have HSP := Lib.hid hsp
          have HLEN := HLc.out.len
          obtain ⟨y0, y1, y2, y3⟩ := (four HPc.out).1
          have HWR := Lib.hid (write_any HLc.out.win HLEN hmm.out (by omega) hpb hfs)
          have HTL : Hid (∀ l', p.tell m.toNat l d n = some l' → l'.length ≤ m.toNat ∧ l'.length ≤ l.length + 273) := Lib.hid fun l' hl' => tell_len hl' (by omega)
          have HXl := lt_of_heap HX.out
          clear hsp hfs HLEN HD hpb
          go_wp2_with fail
          refine HWR.out.mono ?_
          rintro x w5 ⟨rfl, hg⟩
          cases ht : p.tell m.toNat l d n with
          | none =>
            rw [ht] at hg
            obtain ⟨v', hL'⟩ := HLc.out.grew hg HLc.out.len
            have HRES := Lib.hid ((applyL_long (ps := ps.drop (k + 1)) hq ht).symm.trans HA.out)
            have HB := Lib.hid hL'.below
            clear hg hL' HA HLc HWR HTL HX HPc
            simp only [Option.isSome_none]
            go_wp2
            go_ret2
            exact ⟨by rw [← HRES.out]; rfl, HB.out⟩
          | some l' =>
            rw [ht, Option.getD_some] at hg
            obtain ⟨t1, t2⟩ := HTL.out l' ht
            obtain ⟨v', hL'⟩ := HLc.out.grew hg t1
            have HRES := Lib.hid ((applyL_more (ps := ps.drop (k + 1)) hq ht).symm.trans HA.out)
            have hX5 : w5.heap[X]? = some (.cells #[.int .i64 s.a, .int .i64 s.b, .int .i64 s.c, .int .i64 s.d] 78 (0, 0)) := by
              obtain ⟨_, _, hF, _⟩ := hg
              exact (hF.block X HXl HNO.out).trans HX.out
            have HL5 := Lib.hid (hL'.store HSP.out)
            obtain ⟨⟨s0, s1, s2, s3⟩, _, hXl5⟩ := four hX5
            obtain ⟨⟨r0, r1, r2, r3⟩, ⟨f0, f1, f2, f3⟩, hRl5⟩ := four hL'.reps
            clear hg hL' HA HLc HWR HTL HX HPc hX5
            simp only [Option.isSome_some]
            go_wp2
            refine ⟨⟨k + 1, by omega, rfl, _, _, _, HL5.out, by omega, HRES.out⟩, ?_⟩
            simp only [intOf]
            omega
    · as_aux_lemma =>
      obtain rfl : k = ps.length := by omega
      rw [List.drop_length] at hres
      have hres' : (l, 0) = applyL m.toNat ps [] ⟨1, 1, 1, 1⟩ := hres
      have HRES := Lib.hid hres'
      have HT := Lib.hid (Wnd.text_any hL.win)
      have HB := Lib.hid hL.below
      clear hL hres hres'
      go_wp2_with fail
      refine HT.out.mono ?_
      rintro x w5 ⟨rfl, rfl⟩
      go_wp2
      go_ret2
      exact ⟨by rw [← HRES.out]; rfl, HB.out⟩
theorem apply_nil (a : Option Addr) (cap : Nat) (m : Int) (W : World) :
    Calls Try.prog 36 #[.slice a 0 cap, .int .i64 m] W fun x w' => x = .returned (.tuple #[.string ⟨#[]⟩, .int .i64 0]) ∧ Below W.heap.size W w' := by
  go_enter Try.func36, Try.ntmps36
  go_wp2_with fail
  refine (Wnd.new_any m W).mono ?_
  rintro x w1 ⟨rfl, hw1⟩
  have HW1 := Lib.hid (show Win w1 W.heap.size (.slice none 0 0) m.toNat [] from by rw [hw1]; exact Wnd.win_new W m.toNat)
  have HB1 := Lib.hid (show Below W.heap.size W w1 from by rw [hw1]; exact (Below.refl _ _).alloc (Nat.le_refl _) _)
  clear hw1
  go_wp2_with fail
  refine (show Calls Try.prog 46 #[] w1 fun x w' => x = .returned (.agg #[.int .i64 1, .int .i64 1, .int .i64 1, .int .i64 1]) ∧ Below w1.heap.size w1 w' from first_any w1).mono ?_
  rintro x w2 ⟨rfl, hb2⟩
  have HB2 := Lib.hid (bel_alloc (.cells #[.int .i64 1, .int .i64 1, .int .i64 1, .int .i64 1] 78 (0, 0)) (bel_new hb2 HB1.out))
  have HW2 := Lib.hid (win_alloc (HW1.out.frame (own := fun _ => False) (Frame.of_below_size hb2) (fun _ _ => id)) (.cells #[.int .i64 1, .int .i64 1, .int .i64 1, .int .i64 1] 78 (0, 0)))
  clear hb2 HB1 HW1
  go_wp2_with fail
  generalize w2.alloc (.cells #[.int .i64 1, .int .i64 1, .int .i64 1, .int .i64 1] 78 (0, 0)) = W3 at *
  go_loop [19] (fun i => i = .int .i64 0) (fun i => 1)
  case atStart => rfl
  case round =>
    subst hrel
    go_wp2_with fail
    refine (Wnd.text_any HW2.out).mono ?_
    rintro x w5 ⟨rfl, rfl⟩
    go_wp2
    go_ret2
    exact ⟨rfl, HB2.out⟩
/-- A list of packets in memory. -/
def IsPts (w : World) (a : Option Addr) (ps : List Pt) : Prop :=
  ps = [] ∨ ∃ b off, a = some ⟨b, off, none⟩ ∧ ∀ i (h : i < ps.length), IsPt w b (off + i * 4) ps[i]
theorem IsPts.below {w w' : World} {a : Option Addr} {ps : List Pt} (h : IsPts w a ps) (hb : Below w.heap.size w w') : IsPts w' a ps := by
  rcases h with h | ⟨b, off, e, h⟩
  · exact .inl h
  · exact .inr ⟨b, off, e, fun i hi => (h i hi).below hb⟩
theorem apply_any {W : World} {a : Option Addr} {ps : List Pt} (h : IsPts W a ps) (hl : ps.length ≤ 1000) (cap : Nat) (m : Int) (hm : m ≤ 9223372036854775807) :
    Calls Try.prog 36 #[.slice a ps.length cap, .int .i64 m] W fun x w' => x = .returned (.tuple #[.string ⟨(applyL m.toNat ps [] ⟨1, 1, 1, 1⟩).1.toArray⟩, .int .i64 ((applyL m.toNat ps [] ⟨1, 1, 1, 1⟩).2 : Int)]) ∧ Below W.heap.size W w' := by
  by_cases hn : 0 < ps.length
  · rcases h with h | ⟨b, off, rfl, h⟩
    · rw [h] at hn; simp at hn
    · exact apply_more h hn hl cap m hm
  · obtain rfl : ps = [] := by cases ps <;> simp_all
    exact apply_nil a cap m W
end Go.Proofs.Ythejbnodalnnpaa.Pk
