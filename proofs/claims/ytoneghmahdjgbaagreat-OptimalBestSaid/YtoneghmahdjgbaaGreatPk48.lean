/-
  What was put, with the end behind it, is got: of the bytes, and through Encode and Decode.
  Package lazy: the contract of Parse.
-/
import Derived.Test.YtoneghmahdjgbaaGreatPk25
import Derived.Test.YtoneghmahdjgbaaGreatPk47

section
set_option linter.unusedVariables false
set_option linter.unusedSimpArgs false
namespace Go.Proofs.YtoneghmahdjgbaaGreat.Lz
open Go.RowKit
open Rc Mo
open Pk (Rp Pt applyL IsPts)
set_option maxHeartbeats 4000000 in
theorem read_end {N M : Nat} {lc lp pb : Nat} {l : List Pt} {X : Pr} (hl : FitAll (M : Int) (xNew lc lp pb) l) (hX : X = runs (M : Int) (xNew lc lp pb) l) (hN : X.m.l.length = N) (hNM : N ≤ M) :
    readR lc lp pb ⟨(encB X true).toArray⟩ (-1) (M : Int) = some (X.m, l) := by
  have h0 : (xNew lc lp pb).s.Ok := start_ok lc lp pb
  have hpos : (xNew lc lp pb).m.r.pos := by unfold xNew mNew Pk.Rp.pos; simp
  have hmo : mostOf (-1) (M : Int) = (M : Int) := by unfold mostOf; rw [if_pos (by omega)]
  have hok := runs_ok (most := (M : Int)) (l := l) h0
  rw [← hX] at hok
  have hE := (Es.Ok.code hok X.m pend)
  have hs := ahead_self (e := (X.s.code X.m pend).e) (by have := hE.fine.1; omega)
  obtain ⟨F, hF⟩ : ∃ F, F = (X.s.code X.m pend).e.low := ⟨_, rfl⟩
  obtain ⟨T, hT⟩ : ∃ T, T = (X.s.code X.m pend).e.turns := ⟨_, rfl⟩
  rw [← hF, ← hT] at hs
  have ha := ahead_code hok hs
  have ha' : Ahead (runs (M : Int) (xNew lc lp pb) l).s.e F T := by rw [← hX]; exact ha
  have ha0 := ahead_runs (most := (M : Int)) (l := l) (x := xNew lc lp pb) 0 h0 ha'
  have hrd : encB X true = 0 :: be (T + 4) F ++ [] := by rw [hF, hT]; simp [encB, Enc.bytes]
  have ha1 : Ahead Enc.start F T := by
    have := ha0
    simp only [List.take_zero] at this
    exact this
  have hst := follows_start (more := []) ha1
  rw [← hrd] at hst
  have hf0 : Fol ⟨Dec.read (encB X true), qNew⟩ (xNew lc lp pb).s F T [] := ⟨hst, rfl⟩
  have hr := fol_runs h0 hl ha' hf0
  have hlen := (runs_len hpos hl).1
  rw [← hX, hN] at hlen
  have hll : l.length ≤ N := by have : (xNew lc lp pb).m.l.length = 0 := rfl; omega
  have hlk1 : ∀ m : Ms, lacksB (-1) m = true := fun m => by unfold lacksB; simp
  have key : ∀ (j k f : Nat), j + k = l.length → j < f → decR (-1) (M : Int) f (runs (M : Int) (xNew lc lp pb) (l.take k)).m (dsN (M : Int) (xNew lc lp pb) l ⟨Dec.read (encB X true), qNew⟩ k) (l.take k) = some (X.m, l) := by
    intro j
    induction j with
    | zero =>
      intro k f hk hf
      obtain ⟨f', rfl⟩ : ∃ f', f = f' + 1 := ⟨f - 1, by omega⟩
      have hkl : k = l.length := by omega
      have hfol := hr k (by omega)
      rw [hkl, List.take_length, ← hX] at hfol ⊢
      obtain ⟨g1, g2⟩ := fol_end (most := (M : Int)) hok hs hfol
      have g3 := g2.f
      rw [hF, hT] at g3
      obtain ⟨r1, r2, r3⟩ := follows_end g3
      have hov : over ((dsN (M : Int) (xNew lc lp pb) l ⟨Dec.read (encB X true), qNew⟩ l.length).code X.m) = true := by unfold over; simp [Dec.done, r1, r2, r3]
      rw [decR_end ⟨hlk1 _, hfol.f.1⟩ g1, hov, if_pos ⟨by omega, rfl⟩]
    | succ j ih =>
      intro k f hk hf
      obtain ⟨f', rfl⟩ : ∃ f', f = f' + 1 := ⟨f - 1, by omega⟩
      have hkl : k < l.length := by omega
      have hlk : l[k]? = some l[k] := List.getElem?_eq_getElem hkl
      obtain ⟨hb, y, hy⟩ := fitAll_at hl hlk
      have ha2 := ahead_runs (most := (M : Int)) (l := l) (x := xNew lc lp pb) (k + 1) h0 ha'
      rw [runs_take hlk] at ha2
      have hfol := hr k (by omega)
      obtain ⟨g1, _⟩ := fol_put (runs_ok h0) hb hy ha2 hfol
      rw [← runs_take hlk] at g1
      rw [decR_more ⟨hlk1 _, hfol.f.1⟩ g1]
      have htk : l.take k ++ [l[k]] = l.take (k + 1) := by rw [List.take_succ_eq_append_getElem hkl]
      rw [htk]
      exact ih (k + 1) f' (by omega) (by omega)
  unfold readR
  rw [hmo]
  have := key l.length 0 ((M : Int).toNat + 1) (by omega) (by simp; omega)
  rw [List.take_zero] at this
  simpa [dsN, runs, xNew] using this
/-- Packets that tell a text come back through their bytes, with the end. -/
theorem back_end (lc lp pb : Nat) (hl : lc + lp ≤ 4) (hpb : pb ≤ 4) {qs : List Pt} {s : ByteArray} (hb : ∀ p ∈ qs, p.b < 256) (h : applyL s.size qs [] ⟨1, 1, 1, 1⟩ = (s.data.toList, 0)) (hs : s.size ≤ 16777216) (hq : qs.length ≤ 1000) :
    ∃ bs : ByteArray, (∀ (W : World) (a : Option Addr) (cap : Nat), IsPts W a qs → Calls Tryz.prog 12 #[.slice a qs.length cap, .agg #[.int .i64 (lc : Int), .int .i64 (lp : Int), .int .i64 (pb : Int)], .bool true] W fun z w' => z = .returned (.tuple #[.string bs, .int .i64 0]) ∧ Below W.heap.size W w') ∧
      ∀ W : World, Calls Tryz.prog 13 #[.string bs, .agg #[.int .i64 (lc : Int), .int .i64 (lp : Int), .int .i64 (pb : Int)], .int .i64 (-1), .int .i64 (s.size : Int)] W fun x w' => x = .returned (.tuple #[.string s, .int .i64 0]) ∧ Below W.heap.size W w' := by
  have hss : (⟨s.data.toList.toArray⟩ : ByteArray) = s := by cases s; simp
  have hN : s.data.toList.length = s.size := by rw [Array.length_toList]; rfl
  obtain ⟨h1, h2⟩ := fitAll_apply qs (xNew lc lp pb) (by unfold xNew mNew Pk.Rp.pos; simp) hb h
  obtain ⟨h3, h4⟩ := runs_mono (M := 16777216) (by omega) h1
  have hE : encR 16777216 (xNew lc lp pb) qs = some (runs (s.size : Int) (xNew lc lp pb) qs) := by rw [encR_all h3, h4]
  have hR := read_end h1 rfl (by rw [h2]; exact hN) (Nat.le_refl _)
  have ht := runs_turns h1
  have hok := runs_ok (most := (s.size : Int)) (l := qs) (start_ok lc lp pb : (xNew lc lp pb).s.Ok)
  generalize runs (s.size : Int) (xNew lc lp pb) qs = X at *
  have hct := Es.code_turns X.s X.m pend_ok
  have h0 : (xNew lc lp pb).s.e.turns = 0 := rfl
  have hlen : (encB X true).length = (X.s.code X.m pend).e.turns + 5 := by simp [encB, Enc.bytes, be_length]
  have hbs : (⟨(encB X true).toArray⟩ : ByteArray).size ≤ 1000000000000 := by show (encB X true).toArray.size ≤ _; rw [List.size_toArray]; omega
  refine ⟨⟨(encB X true).toArray⟩, fun W a cap hi => ?_, fun W => ?_⟩
  · have := encode_any lc lp pb hl hpb true (cap := cap) hi hq
    rw [hE] at this
    exact this
  · have := dec_any lc lp pb hl hpb ⟨(encB X true).toArray⟩ hbs (-1) (s.size : Int) (by omega) (by omega) (by omega) (by omega) W
    rw [hR] at this
    have hv : decV (some (X.m, qs)) = .tuple #[.string s, .int .i64 0] := by
      show Value.tuple #[.string ⟨X.m.l.toArray⟩, .int .i64 0] = _
      rw [h2, hss]
    rw [hv] at this
    exact this
end Go.Proofs.YtoneghmahdjgbaaGreat.Lz
end
section
set_option linter.unusedVariables false
namespace Go.Proofs.YtoneghmahdjgbaaGreat.Gr
open Go.RowKit
open Mt
open Ch (foundL bt bt_at bt_lt)
open Pk (Rp Pt IsPts repL)
open Mo (HeldP)
/-- A variable that holds a piece. -/
def Var (w : World) (O : Paint) (X : Nat) (x : Nat × Nat) : Prop := Blk w O 3 X (.cells #[.int .i64 (x.1 : Int), .int .i64 (x.2 : Int)] 46 (0, 0))
section
variable {cs : List Nat} {w0 w w' : World} {O O' : Paint} {F p X Y : Nat} {s : ByteArray} {window cut : Int} {v : Value} {l : List Pt} {x y : Nat × Nat}
theorem Var.set (h : Var w O X x) (y : Nat × Nat) : Var ((w.setCell ⟨X, 0, none⟩ (.int .i64 (y.1 : Int))).setCell ⟨X, 1, none⟩ (.int .i64 (y.2 : Int))) O X y := by
  have h1 := (Blk.setCell h 0 (.int .i64 (y.1 : Int))).setCell 1 (.int .i64 (y.2 : Int))
  simp at h1
  exact h1
theorem Var.other (h : Var w O X x) (hne : Y ≠ X) (u1 u2 : Value) : Var ((w.setCell ⟨Y, 0, none⟩ u1).setCell ⟨Y, 1, none⟩ u2) O X x :=
  (Blk.setCell_other h (p := ⟨Y, 0, none⟩) hne u1).setCell_other (p := ⟨Y, 1, none⟩) hne u2
theorem Var.step (h : Var w O X x) (hs : Step cs w O w' O') (h3 : 3 ∉ cs) : Var w' O' X x := Blk.step h hs h3
theorem GrAt.store (h : GrAt w0 w O F s window cut p v l) (hX : O X = 3) (u1 u2 : Value) : GrAt w0 ((w.setCell ⟨X, 0, none⟩ u1).setCell ⟨X, 1, none⟩ u2) O F s window cut p v l :=
  h.step (((Step.refl [3] w O).setCell (p := ⟨X, 0, none⟩) (.inl (by simp [hX])) u1).setCell (p := ⟨X, 1, none⟩) (.inl (by simp [hX])) u2) (by simp) (by simp) (by simp) (by simp)
end
set_option maxRecDepth 100000 in
set_option maxHeartbeats 8000000 in
theorem lazy_any (s : ByteArray) (window cut : Int) (w : World) (hs : s.size ≤ 1000) (hw0 : -9223372036854775808 ≤ window) (hw1 : window ≤ 9223372036854775807) (hc1 : cut ≤ 9223372036854775807) :
    Calls Tryz.prog 9 #[.string s, .int .i64 window, .int .i64 cut] w (Told w (told s (wait s window cut))) := by
  have hc := wait_ok s window cut
  have HC := Lib.hid hc
  have HNX : Hid (∀ (wr : World) (O : Paint) (F k : Nat), PiAt wr O F s window cut k → Calls Tryz.prog 22 #[.pointer (some ⟨F, 0, none⟩)] wr fun x w' => x = .returned (pv (best s window cut k)) ∧ ∃ O', Step [1] wr O w' O' ∧ PiAt w' O' F s window cut (min (k + 1) s.size)) :=
    Lib.hid (fun wr O F k h => pnext_any h (by omega) hw0 hw1 hc1)
  have HPV : Hid (∀ x : Nat × Nat, pv x = .agg #[.int .i64 (x.1 : Int), .int .i64 (x.2 : Int)]) := Lib.hid (fun x => rfl)
  have HTF := Lib.hid (told_facts hc (by omega))
  have HPN := Lib.hid (pnew_any w (fun _ => 0) s window cut (by omega))
  clear hc hw0 hw1 hc1
  go_enter Tryz.func9, Tryz.ntmps9
  go_wp2_with fail
  refine HPN.out.mono ?_
  rintro x w2 ⟨F, O2, rfl, hs2, hP⟩
  have HL0 : Hid (GrAt w w2 O2 F s window cut 0 (.slice none 0 0) []) := Lib.hid ⟨Clear.below (fun _ _ => rfl) hs2 (by simp) (Nat.le_refl _) (Below.refl _ _), Clear.step (fun _ _ => rfl) hs2 (Nat.le_refl _), hP, HeldP.nil _ _ _⟩
  clear hs2 hP HPN
  have HN1 := Lib.hid (HNX.out w2 O2 F 0 HL0.out.pi)
  rw [HPV.out] at HN1
  generalize hwt : wait s window cut = c at *
  have HWT : Hid (∀ k, c k = if (best s window cut k).1 < (best s window cut (k + 1)).1 then (0, 0) else best s window cut k) := Lib.hid (fun k => by rw [← hwt]; rfl)
  clear hwt
  generalize hcd : best s window cut = bs at *
  clear hcd
  go_wp2_with fail
  refine HN1.out.mono ?_
  rintro x w3 ⟨rfl, O3, hs3, hP3⟩
  have hL3 := HL0.out.next hs3 hP3
  have hb4 : Below w3.heap.size w3 (w3.alloc (.cells #[.int .i64 ((bs 0).1 : Int), .int .i64 ((bs 0).2 : Int)] 46)) := (Below.refl _ _).alloc (Nat.le_refl _) _
  have HL4 := Lib.hid (hL3.news hb4)
  have HX4 : Hid (Var _ (Step.paint O3 w3 3) w3.heap.size (bs 0)) := Lib.hid ⟨heap_alloc_new w3 (.cells #[.int .i64 ((bs 0).1 : Int), .int .i64 ((bs 0).2 : Int)] 46), Step.paint_new (Nat.le_refl _)⟩
  clear hs3 hP3 hL3 hb4 HN1 HL0
  go_upto_region 4 with (fail)
  generalize w3.alloc (.cells #[.int .i64 ((bs 0).1 : Int), .int .i64 ((bs 0).2 : Int)] 46) = w4 at *
  generalize Step.paint O3 w3 3 = O4 at *
  generalize w3.heap.size = X at *
  go_wp2_with fail
  go_loopw [8, 10] (fun v i wr => ∃ (k : Nat) (l : List Pt) (O : Paint), k ≤ s.size ∧ i = .int .i64 k ∧ GrAt w wr O F s window cut (min (k + 1) s.size) v l ∧ Var wr O X (bs k) ∧ l ++ parse s c k = parse s c 0 ∧ l.length ≤ k) (fun _ i _ => s.size - (intOf i).toNat)
  case atStart => exact ⟨0, [], O4, by omega, rfl, HL4.out, HX4.out, rfl, by simp⟩
  case round =>
    clear HL4 HX4
    obtain ⟨k, l, O, hk, rfl, hL, hX, hE, hll⟩ := hrel
    obtain ⟨wo, rfl⟩ : ∃ wo : World, wo = wr := ⟨_, rfl⟩
    by_cases hlt : k < s.size
    · have HE := Lib.hid (show (l ++ [pkt s k (c k)]) ++ parse s c (k + size1 (c k)) = parse s c 0 by rw [← hE, parse_more HC.out hlt]; simp)
      have h1 := size1_pos (HC.out k)
      have h2 := size1_le hlt (HC.out k)
      rw [show min (k + 1) s.size = k + 1 from by omega] at hL
      have HN1 := Lib.hid (HNX.out wo O F (k + 1) hL.pi)
      rw [HPV.out] at HN1
      have HL := Lib.hid hL
      have HX := Lib.hid hX
      have HCK := Lib.hid (HWT.out k)
      clear hE hL hX
      go_wp2_with fail
      refine HN1.out.mono ?_
      rintro x w3 ⟨rfl, O3, hs3, hP3⟩
      rw [show min (k + 1 + 1) s.size = min (k + 2) s.size from rfl] at hP3
      have hL3 := HL.out.next hs3 hP3
      have hX3 := HX.out.step hs3 (by simp)
      have hb4 : Below w3.heap.size w3 (w3.alloc (.cells #[.int .i64 ((bs (k + 1)).1 : Int), .int .i64 ((bs (k + 1)).2 : Int)] 46)) := (Below.refl _ _).alloc (Nat.le_refl _) _
      have hL4 := hL3.news hb4
      have hX4 := hX3.step (Step.of_below hb4 O3 3) (by simp)
      have hY4 : Var _ (Step.paint O3 w3 3) w3.heap.size (bs (k + 1)) := ⟨heap_alloc_new w3 (.cells #[.int .i64 ((bs (k + 1)).1 : Int), .int .i64 ((bs (k + 1)).2 : Int)] 46), Step.paint_new (Nat.le_refl _)⟩
      have hYX : w3.heap.size ≠ X := fun e => by have := hX3.lt; omega
      clear hs3 hP3 hL3 hb4 HN1 HL HX hX3
      go_upto_region 7 with (fail)
      generalize w3.alloc (.cells #[.int .i64 ((bs (k + 1)).1 : Int), .int .i64 ((bs (k + 1)).2 : Int)] 46) = w4 at *
      generalize Step.paint O3 w3 3 = O4 at *
      generalize w3.heap.size = Y at *
      obtain ⟨⟨p0, p1⟩, f0, f1, hXl⟩ := two_cells hX4.1
      obtain ⟨⟨q0, q1⟩, _, _, hYl⟩ := two_cells hY4.1
      have HL4 := Lib.hid hL4
      have HX4 := Lib.hid hX4
      have HY4 := Lib.hid hY4
      clear hL4 hX4 hY4
      have HCX : Hid (¬ (bs k).1 < (bs (k + 1)).1 → c k = bs k) := Lib.hid (fun h => by rw [HCK.out, if_neg h])
      have HC0 : Hid ((bs k).1 < (bs (k + 1)).1 → c k = (0, 0)) := Lib.hid (fun h => by rw [HCK.out, if_pos h])
      clear HCK
      by_cases hgt : (bs k).1 < (bs (k + 1)).1
      case' pos =>
        have hd : decide (((bs k).1 : Int) < ((bs (k + 1)).1 : Int)) = true := by rw [decide_eq_true_eq]; omega
        have hcc := HC0.out hgt
        go_upto_region 9 with (fail)
        have hL5 := HL4.out.store HX4.out.2 (.int .i64 0) (.int .i64 0)
        have hX5 := HX4.out.set (0, 0)
        have hY5 := HY4.out.other (Ne.symm hYX) (.int .i64 0) (.int .i64 0)
        rw [← hcc] at hX5
        have hX5' : Var ((w4.setCell ⟨X, 0, none⟩ (.int .i64 0)).setCell ⟨X, 1, none⟩ (.int .i64 0)) O4 X (c k) := by rw [hcc] at hX5 ⊢; exact hX5
        clear hX5
        have hX5 := hX5'
        clear hX5' hd hcc
        generalize (w4.setCell ⟨X, 0, none⟩ (.int .i64 0)).setCell ⟨X, 1, none⟩ (.int .i64 0) = w5 at *
      case' neg =>
        have hd : decide (((bs k).1 : Int) < ((bs (k + 1)).1 : Int)) = false := by rw [decide_eq_false_iff_not]; omega
        have hcc := HCX.out hgt
        go_upto_region 9 with (fail)
        have hL5 := HL4.out
        have hX5 := HX4.out
        have hY5 := HY4.out
        rw [← hcc] at hX5
        clear hd hcc
        obtain ⟨w5, hw5⟩ : ∃ w5, w5 = w4 := ⟨_, rfl⟩
        rw [← hw5] at hL5 hX5 hY5 ⊢
        clear hw5
      all_goals
        clear p0 p1 f0 f1 hXl q0 q1 hYl HL4 HX4 HY4 HCX HC0 hgt
        have hbk := bt_at hlt
        have HSZ := Lib.hid (fun W => psize_any (c k) W)
        have HPK := Lib.hid (fun W => ppacket_any (bt s k) (c k) W)
        rw [← hbk] at HPK
        have HPKT : Hid (pkt s k (c k) = pktB (bt s k) (c k)) := Lib.hid rfl
        rw [HPKT.out, ← hbk] at HE
        clear HPKT hbk HWT
        have hVX : ∀ W O', Var W O' X (c k) → Blk W O' 3 X (.cells #[.int .i64 ((c k).1 : Int), .int .i64 ((c k).2 : Int)] 46 (0, 0)) := fun W O' h => h
        have HX5 : Hid (Blk w5 O4 3 X (.cells #[.int .i64 ((c k).1 : Int), .int .i64 ((c k).2 : Int)] 46 (0, 0))) := Lib.hid hX5
        clear hVX
        generalize hxn : (c k).1 = xn at *
        generalize hxd : (c k).2 = xd at *
        generalize size1 (c k) = sz at *
        generalize pktB (s[k].toNat) (c k) = pk at *
        clear hxn hxd hX5
        obtain ⟨⟨p0, p1⟩, _⟩ := two_cells HX5.out.1
        have HL4 := Lib.hid hL5
        have HY5 := Lib.hid hY5
        clear hL5 hY5
        have e1 : (0 : Int) ≤ (k : Int) := by omega
        have e2 : (k : Int) < (s.size : Int) := by omega
        have HS : Hid (∀ W', (∃ O', Step [7] w5 O4 W' O') → (∃ O', Step [7] w5 O4 W' O') ∧ (W'.cell? ⟨X, 0, none⟩ = some (.int .i64 (xn : Int)) ∧ W'.cell? ⟨X, 1, none⟩ = some (.int .i64 (xd : Int)))) := Lib.hid (fun W' h => by
          obtain ⟨O', hq⟩ := h
          exact ⟨⟨O', hq⟩, (two_cells (HX5.out.step hq (by simp)).1).1⟩)
        have HR : Hid (∀ W, Below w5.heap.size w5 W → W.ownsRow 0 33 4 u8 l.length (Pl.flatP l)) := Lib.hid (fun W hb => (HL4.out.news hb).held.row)
        have HRC : Hid (∀ k, u8.ownBlock = some k → O4 k ∈ [7]) := Lib.hid (fun k hk => by rw [HL4.out.held.paint k hk]; simp)
        have S0 : ∃ O', Step [7] w5 O4 w5.drew O' := ⟨O4, (Step.refl _ _ _).drew⟩
        obtain ⟨i0, hi, hz0, hz1, hz2⟩ := info_parts Pl.infoPk
        have hm1 : l.length + 1 ≤ maxLen := by unfold maxLen; omega
        have hm2 : (l.length + 1) * 32 ≤ 140737488355328 := by omega
        go_region_held3 (fun W' => (∃ O', Step [7] w5 O4 W' O') ∧ (W'.cell? ⟨X, 0, none⟩ = some (.int .i64 (xn : Int)) ∧ W'.cell? ⟨X, 1, none⟩ = some (.int .i64 (xd : Int)))) ((refine HS.out _ ?_; first | assumption | exact Mo.qal _ (by assumption))) (first | (go_at_call 17; (with_reducible refine (HPK.out _).mono ?_); rintro x w6 ⟨rfl, hb6⟩; have hq6 := Mo.qbel S0 hb6; unfold Pt.val) | (refine Mo.step_append_pt _ rfl (.tmp 30) (.tmp 36) 26 rfl 33 i0 (.agg #[.int .i64 0, .int .i64 0, .int .i64 0, .int .u8 0]) 4 32 Tryz.underlying26 hi hz0 hz1 hz2 rfl (by decide) u8 l.length _ rfl (HR.out _ (Pk.bel_alloc _ (Pk.bel_new hb6 (Pk.bel_drew (Below.refl _ _))))) ⟨w6.heap.size, 0, none⟩ 1 1 (by decide) [.int .i64 pk.k, .int .i64 pk.d, .int .i64 pk.n, .int .u8 (pk.b : Int)] rfl rfl (Pl.pt_news (heap_alloc_new _ _)) (Pl.pt_one _ _ _ _) hm1 hm2 ?_; intro g7 cap7 w7 hown7 hgr7 hmv7; have hq7 := Mo.qgrow (Mo.qal _ hq6) hgr7 HRC.out))
        have hb46 := Pk.bel_new hb6 (Pk.bel_drew (Below.refl w5.heap.size w5))
        have hL6 := HL4.out.news hb46
        have hX6 := HX5.out.step (Step.of_below hb46 O4 3) (by simp)
        have hY6 := HY5.out.step (Step.of_below hb46 O4 3) (by simp)
        obtain ⟨hL7, hs7⟩ := hL6.more rfl hown7 hgr7 hmv7
        have hX7 := hX6.step hs7 (by simp)
        have hY7 := hY6.step hs7 (by simp)
        generalize Step.paint (Step.paint O4 w5 3) w6 7 = O7 at *
        clear hb46 hL6 hX6 hY6 hs7 hb6 hq6 hown7 hgr7 hmv7 hq7 S0 HS HR HRC HL4 HX5 HY5 HPK hi hz0 hz1 hz2
        obtain ⟨m, hm⟩ : ∃ m, sz = m + 1 := ⟨sz - 1, by omega⟩
        subst hm
        have hwk : IntKind.i64.wrap ((k : Int) + ((m + 1 : Nat) : Int)) = (k : Int) + ((m + 1 : Nat) : Int) := by rw [IntKind.wrap_i64]; omega
        have hwm : IntKind.i64.wrap (((m + 1 : Nat) : Int) - 1) = (m : Int) := by rw [IntKind.wrap_i64]; omega
        obtain ⟨⟨p0, p1⟩, _, _, hXl⟩ := two_cells hX7.1
        have HL7 := Lib.hid hL7
        have HX7 := Lib.hid hX7
        have HY7 := Lib.hid hY7
        clear hL7 hX7 hY7
        go_wp2_with fail
        refine (HSZ.out _).mono ?_
        rintro x w8 ⟨rfl, hb8⟩
        have HL8 := Lib.hid (HL7.out.news hb8)
        have hX8 := HX7.out.step (Step.of_below hb8 O7 3) (by simp)
        have hY8 := HY7.out.step (Step.of_below hb8 O7 3) (by simp)
        obtain ⟨⟨p0, p1⟩, _, _, hXl⟩ := two_cells hX8.1
        generalize Step.paint O7 w7 3 = O8 at *
        clear hb8 HL7 HX7 HY7
        go_wp2_with fail
        refine (HSZ.out _).mono ?_
        rintro x w9 ⟨rfl, hb9⟩
        have HL9 := Lib.hid (HL8.out.news hb9)
        have HX9 := Lib.hid (hX8.step (Step.of_below hb9 O8 3) (by simp))
        have HY9 := Lib.hid (hY8.step (Step.of_below hb9 O8 3) (by simp))
        generalize Step.paint O8 w8 3 = O9 at *
        clear hb9 hX8 hY8 p0 p1 HL8 HSZ
        go_wp2_with fail
        go_loopw [45] (fun i wr => ∃ (j : Nat) (O : Paint) (z : Nat × Nat), j ≤ m ∧ i = .int .i64 j ∧ GrAt w wr O F s window cut (min (k + 2 + j) s.size) (.slice (some ⟨g7, 0, none⟩) (l.length + 1) cap7) (l ++ [pk]) ∧ Var wr O Y (bs (k + 1 + j)) ∧ Var wr O X z) (fun i _ => m - (intOf i).toNat)
        case atStart => exact ⟨0, O9, (xn, xd), by omega, rfl, HL9.out, HY9.out, HX9.out⟩
        case round =>
          clear HL9 HX9 HY9
          obtain ⟨j, O, z, hj, rfl, hL, hY, hX⟩ := hrel
          by_cases hjm : j < m
          · rw [show min (k + 2 + j) s.size = k + 2 + j from by omega] at hL
            have HN1 := Lib.hid (HNX.out _ O F _ hL.pi)
            rw [HPV.out, show bs (k + 2 + j) = bs (k + 1 + (j + 1)) from congrArg bs (by omega)] at HN1
            have HL := Lib.hid hL
            have HY := Lib.hid hY
            have HX := Lib.hid hX
            clear hL hX hY HNX
            go_wp2_with fail
            refine HN1.out.mono ?_
            rintro x w10 ⟨rfl, O10, hs10, hP10⟩
            rw [show min (k + 2 + j + 1) s.size = min (k + 2 + (j + 1)) s.size from rfl] at hP10
            have HL10 := Lib.hid (HL.out.next hs10 hP10)
            have HX10 := Lib.hid (HX.out.step hs10 (by simp))
            have hY10 := HY.out.step hs10 (by simp)
            have HY10 := Lib.hid hY10
            obtain ⟨⟨q0, q1⟩, f0, f1, hYl⟩ := two_cells hY10.1
            clear hs10 hP10 HN1 HL HY HX hY10
            go_wp2_with fail
            go_roundw
            case rel => exact ⟨j + 1, O10, z, by omega, by go_num, HL10.out.store HY10.out.2 _ _, HY10.out.set (bs (k + 1 + (j + 1))), HX10.out.other hYX _ _⟩
            case measure => simp [intOf]; omega
          · obtain rfl : j = m := by omega
            rw [show bs (k + 1 + j) = bs (k + (j + 1)) from congrArg bs (by omega), show min (k + 2 + j) s.size = min (k + (j + 1) + 1) s.size from by omega] at *
            have HL := Lib.hid hL
            have HY := Lib.hid hY
            have HX := Lib.hid hX
            obtain ⟨⟨q0, q1⟩, _, _, hYl⟩ := two_cells hY.1
            obtain ⟨⟨p0, p1⟩, f0, f1, hXl⟩ := two_cells hX.1
            clear hL hX hY HNX
            go_wp2_with fail
            go_roundw
            case rel => exact ⟨k + (j + 1), l ++ [pk], O, by omega, by go_num, HL.out.store HX.out.2 _ _, HX.out.set (bs (k + (j + 1))), HE.out, by simp; omega⟩
            case measure => simp [intOf]; omega
    · obtain rfl : k = s.size := by omega
      rw [parse_end (Nat.le_refl _), List.append_nil] at hE
      subst hE
      obtain ⟨A, cap, rfl, hpts⟩ := hL.held.pts (parse_bytes s c 0)
      obtain ⟨h1, h2, h3⟩ := HTF.out
      have HAG := Lib.hid (again_any (cap := cap) hL.below hpts (by have := parse_length s c 0; omega) h3 h2)
      clear hL hX HNX HTF hpts h1 h2 h3
      go_wp2_with fail
      refine HAG.out.mono ?_
      rintro x w3 ⟨Z, rfl, hb3, hI3⟩
      have HE : Hid (Told w (told s c) (.returned (.slice (some ⟨Z, 0, none⟩) (repL (parse s c 0) 0 ⟨1, 1, 1, 1⟩ ⟨1, 1, 1, 1⟩).length (repL (parse s c 0) 0 ⟨1, 1, 1, 1⟩ ⟨1, 1, 1, 1⟩).length)) w3) := Lib.hid ⟨Z, rfl, hb3, hI3⟩
      clear hb3 hI3 HAG
      go_wp2_with fail
      go_ret
      exact HE.out
end Go.Proofs.YtoneghmahdjgbaaGreat.Gr
end
