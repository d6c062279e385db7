/-
  The walk of the statement ModelAny: for all bytes, params and bounds it returns true, and writes nothing that was there.
-/
import Derived.Test.YtkjmkojbfjockaaModelAnyBase
import Derived.Test.YtkjmkojbfjockaaModelBackWalk
set_option linter.unusedVariables false
namespace Go.Proofs.Ytkjmkojbfjockaa.Mo
open Go.RowKit
open Rc
open Pk (Rp Pt four IsPts IsPt applyL)
open Pl (flatP)
structure LockA (w0 : World) (i : Mid) (D : Nat) (m : Ms) (d : Ds) (tot : Nat) (l : List Pt) (v : Value) (w : World) (O : Paint) : Prop where
  run : Run w0 w O
  one : Whole w O i m d.q
  dec : DecAt w O 6 D d.d tot
  held : HeldP w O 7 v l
  c1 : i.cw = 1
  c2 : i.cm = 2
section
variable {w0 w w' : World} {O O' : Paint} {i : Mid} {D tot : Nat} {m : Ms} {d : Ds} {l : List Pt} {v : Value}
theorem LockA.other {c : Nat} (h : LockA w0 i D m d tot l v w O) (hs : Step [c] w O w' O') (hc : 7 < c) : LockA w0 i D m d tot l v w' O' :=
  ⟨h.run.step hs (by simp; omega), h.one.step hs (by rw [h.c1]; simp; omega) (by rw [h.c2]; simp; omega), h.dec.step hs (by simp; omega), h.held.step hs (by simp; omega), h.c1, h.c2⟩
theorem LockA.idle (h : LockA w0 i D m d tot l v w O) (hs : Step [] w O w' O') : LockA w0 i D m d tot l v w' O' := h.other (c := 8) hs.nil (by omega)
theorem LockA.get (h : LockA w0 i D m d tot l v w O) {p : Pt} {e k : Bool} {n' : Ms} (hg : got i.most m (d.codeP m).pt = (p, e, k, n')) :
    Calls Try.prog 15 #[.pointer (some ⟨i.mo, 0, none⟩), .pointer (some ⟨D, 0, none⟩)] w fun z w' => z = .returned (.tuple #[p.val, .bool e, .bool k]) ∧ ∃ O', LockA w0 i D n' (d.code m) tot l v w' O' := by
  refine (get_any h.one h.dec (by rw [h.c1]; omega) (by rw [h.c2]; omega)).mono ?_
  rw [show (⟨d.d, d.q⟩ : Ds) = d from rfl, hg]
  rintro z w' ⟨rfl, O', hs, hw, he⟩
  rw [h.c1, h.c2] at hs
  exact ⟨rfl, O', h.run.step hs (by simp), hw, he, h.held.step hs (by simp), h.c1, h.c2⟩
theorem LockA.add {g n cap : Nat} {p : Pt} {o : Obj} (h : LockA w0 i D m d tot l v w O) (hn : l.length = n) (hr : w'.ownsRow 0 34 4 (.slice (some ⟨g, 0, none⟩) (n + 1) cap) (n + 1) (flatP l ++ [.int .i64 p.k, .int .i64 p.d, .int .i64 p.n, .int .u8 (p.b : Int)])) (hg : (w.alloc o).grownBy w' v.ownBlock) (hm : Moved (w.alloc o) v (.slice (some ⟨g, 0, none⟩) (n + 1) cap)) :
    ∃ O', LockA w0 i D m d tot (l ++ [p]) (.slice (some ⟨g, 0, none⟩) (n + 1) cap) w' O' := by
  obtain ⟨hs, hh⟩ := h.held.more hn hr hg hm
  exact ⟨_, h.run.step hs (by simp), h.one.step hs (by rw [h.c1]; simp) (by rw [h.c2]; simp), h.dec.step hs (by simp), hh, h.c1, h.c2⟩
end
/-- What the loop holds. -/
def Anying (w0 : World) (i : Mid) (D tot k : Nat) (v : Value) (w : World) : Prop := ∃ m d l O, LockA w0 i D m d tot l v w O ∧ Telling m l ∧ l.length ≤ k ∧ ∀ p ∈ l, p.b < 256
theorem apply_any_at {w : World} {O : Paint} {c n g cap : Nat} {l : List Pt} {m : Ms} (h : HeldP w O c (.slice (some ⟨g, 0, none⟩) n cap) l) (hb : ∀ p ∈ l, p.b < 256) (hl : l.length ≤ 1000) (ht : Telling m l) :
    Calls Try.prog 21 #[.slice (some ⟨g, 0, none⟩) n cap, .int .i64 2000] w fun x w' => x = .returned (.tuple #[.string ⟨m.l.toArray⟩, .int .i64 0]) ∧ Below w.heap.size w w' := by
  obtain ⟨rfl, hp⟩ := h.ptsS hb
  have ha := Pk.apply_any hp hl cap 2000 (by omega)
  rw [show (2000 : Int).toNat = 2000 from rfl, telling_all ht] at ha
  exact ha
theorem cells3i : Try.prog.cellsOf 45 = 3 := by kernel_rfl
theorem cells1i : Try.prog.cellsOf 3 = 1 := by kernel_rfl
theorem goodB_nat {a b c : Int} (h : goodB a b c = true) : ∃ l p q : Nat, a = l ∧ b = p ∧ c = q ∧ l + p ≤ 4 ∧ q ≤ 4 := by
  unfold goodB at h
  have := of_decide_eq_true h
  exact ⟨a.toNat, b.toNat, c.toNat, by omega, by omega, by omega, by omega, by omega⟩
set_option maxRecDepth 100000 in
set_option maxHeartbeats 8000000 in
theorem many_walk (s : ByteArray) (x0 x1 x2 most : Int) (w : World) (hs : s.size ≤ maxLen) (h0 : -9223372036854775808 ≤ x0 ∧ x0 ≤ 9223372036854775807) (h1 : -9223372036854775808 ≤ x1 ∧ x1 ≤ 9223372036854775807) (hm : -9223372036854775808 ≤ most ∧ most ≤ 9223372036854775807) :
    Calls Try.prog 4 #[.string s, .agg #[.int .i64 x0, .int .i64 x1, .int .i64 x2], .int .i64 most] w fun x w' => x = .returned (.bool true) ∧ Below w.heap.size w w' := by
  have hb1 : Below w.heap.size w (w.alloc (.cells #[.int .i64 x0, .int .i64 x1, .int .i64 x2] 45)) := (Below.refl _ _).alloc (Nat.le_refl _) _
  have hB := heap_alloc_new w (.cells #[.int .i64 x0, .int .i64 x1, .int .i64 x2] 45)
  have HBX := Lib.hid hB
  have HB1 := Lib.hid hb1
  have H0 := Lib.hid h0
  have H1 := Lib.hid h1
  have HM := Lib.hid hm
  unfold maxLen at hs
  clear hb1 hB h0 h1 hm
  go_enter Try.func4, Try.ntmps4
  go_upto_region 1 with (fail)
  generalize w.alloc (.cells #[.int .i64 x0, .int .i64 x1, .int .i64 x2] 45) = W1 at *
  go_wp2_with fail
  refine (speaks10 W1).mono ?_
  rintro x w2 ⟨rfl, hb2⟩
  have HB2 := Lib.hid (HB1.out.trans (hb2.mono HB1.out.size))
  have hX2 := (hb2.block _ (lt_of_heap HBX.out)).trans HBX.out
  obtain ⟨p0, p1, p2⟩ := tri hX2
  have hsz : w.heap.size < w2.heap.size := lt_of_heap hX2
  clear hb2 HB1 HBX
  go_upto_region 4 with (fail)
  have HB3 := Lib.hid (HB2.out.alloc HB2.out.size (.cells #[.int .i64 x0, .int .i64 x1, .int .i64 x2] 26))
  have hP3 := heap_alloc_new w2 (.cells #[.int .i64 x0, .int .i64 x1, .int .i64 x2] 26)
  have hX3 := (Below.heap_alloc w2 (.cells #[.int .i64 x0, .int .i64 x1, .int .i64 x2] 26) _ hsz).trans hX2
  have HP3 := Lib.hid hP3
  have HX3 := Lib.hid hX3
  clear p0 p1 p2 hP3 hX3 hX2 hsz HB2
  generalize w2.alloc (.cells #[.int .i64 x0, .int .i64 x1, .int .i64 x2] 26) = W3 at *
  generalize w2.heap.size = P at *
  generalize hXe : w.heap.size = X at *
  have HXE := Lib.hid hXe
  clear hXe
  obtain ⟨p0, p1, p2⟩ := tri HX3.out
  go_cut [8] (fun g wc => g = .bool (goodB x0 x1 x2) ∧ wc = W3)
  case first =>
    have hw : IntKind.i64.wrap (4 - x0) = 4 - x0 ∨ ¬ (0 ≤ x0 ∧ x0 ≤ 4) := by
      by_cases c : 0 ≤ x0 ∧ x0 ≤ 4
      · left; rw [IntKind.wrap_i64]; omega
      · exact .inr c
    as_aux_lemma =>
    by_cases c1 : 0 ≤ x0
    · have d1 : decide (0 ≤ x0) = true := decide_eq_true c1
      by_cases c2 : x0 ≤ 4
      · have d2 : decide (x0 ≤ 4) = true := decide_eq_true c2
        have hw2 : IntKind.i64.wrap (4 - x0) = 4 - x0 := by rcases hw with h | h; exact h; omega
        clear hw
        by_cases c3 : 0 ≤ x1
        · have d3 : decide (0 ≤ x1) = true := decide_eq_true c3
          by_cases c4 : x1 ≤ 4
          · have d4 : decide (x1 ≤ 4) = true := decide_eq_true c4
            by_cases c5 : x1 ≤ 4 - x0
            · have d5 : decide (x1 ≤ 4 - x0) = true := decide_eq_true c5
              by_cases c6 : 0 ≤ x2
              · have d6 : decide (0 ≤ x2) = true := decide_eq_true c6
                by_cases c7 : x2 ≤ 4
                · have d7 : decide (x2 ≤ 4) = true := decide_eq_true c7
                  go_wp2_with fail
                  go_meet
                  exact ⟨by unfold goodB; rw [decide_eq_true (by omega)], rfl⟩
                · have d7 : decide (x2 ≤ 4) = false := decide_eq_false c7
                  go_wp2_with fail
                  go_meet
                  exact ⟨by unfold goodB; rw [decide_eq_false (by omega)], rfl⟩
              · have d6 : decide (0 ≤ x2) = false := decide_eq_false c6
                go_wp2_with fail
                go_meet
                exact ⟨by unfold goodB; rw [decide_eq_false (by omega)], rfl⟩
            · have d5 : decide (x1 ≤ 4 - x0) = false := decide_eq_false c5
              go_wp2_with fail
              go_meet
              exact ⟨by unfold goodB; rw [decide_eq_false (by omega)], rfl⟩
          · have d4 : decide (x1 ≤ 4) = false := decide_eq_false c4
            go_wp2_with fail
            go_meet
            exact ⟨by unfold goodB; rw [decide_eq_false (by omega)], rfl⟩
        · have d3 : decide (0 ≤ x1) = false := decide_eq_false c3
          go_wp2_with fail
          go_meet
          exact ⟨by unfold goodB; rw [decide_eq_false (by omega)], rfl⟩
      · have d2 : decide (x0 ≤ 4) = false := decide_eq_false c2
        clear hw
        go_wp2_with fail
        go_meet
        exact ⟨by unfold goodB; rw [decide_eq_false (by omega)], rfl⟩
    · have d1 : decide (0 ≤ x0) = false := decide_eq_false c1
      clear hw
      go_wp2_with fail
      go_meet
      exact ⟨by unfold goodB; rw [decide_eq_false (by omega)], rfl⟩
  case rest =>
    obtain ⟨rfl, hw⟩ := hcut
    subst hw
    clear p0 p1 p2
    obtain ⟨p0, p1, p2⟩ := tri HP3.out
    cases hg : goodB x0 x1 x2 with
    | false =>
      as_aux_lemma =>
      have HN := Lib.hid (new_nil x0 x1 x2 (min most 2000) H0.out H1.out hg wc)
      have HGD := Lib.hid (fun W => good_any x0 x1 x2 H0.out H1.out W)
      rw [hg] at HGD
      clear hg
      go_wp2_with fail
      refine HN.out.mono ?_
      rintro x w4 ⟨rfl, hb4⟩
      have HB4 := Lib.hid (HB3.out.trans (hb4.mono (by rw [← HXE.out]; exact HB3.out.size)))
      obtain ⟨q0, q1, q2⟩ := tri ((hb4.block P (lt_of_heap HP3.out)).trans HP3.out)
      clear hb4 HN p0 p1 p2
      go_wp2_with fail
      refine (HGD.out w4).mono ?_
      rintro x w5 ⟨rfl, hb5⟩
      have HB5 := Lib.hid (HB4.out.trans (hb5.mono (by rw [← HXE.out]; exact HB4.out.size)))
      clear hb5 q0 q1 q2
      go_wp2_with fail
      go_ret
      rw [HXE.out]
      exact ⟨rfl, HB5.out⟩
    | true =>
      obtain ⟨lc, lp, pb, rfl, rfl, rfl, hsum, hpb⟩ := goodB_nat hg
      have HN := Lib.hid (fun W O => new_model lc lp pb hsum hpb (min most 2000) (by have := HM.out; omega) (by omega) W O 1 2 (by decide))
      have HGD := Lib.hid (fun W => good_any (lc : Int) lp pb H0.out H1.out W)
      rw [hg] at HGD
      have HRUN : Hid (Run w wc (fun _ => 0)) := Lib.hid ⟨by rw [HXE.out]; exact HB3.out, fun _ _ => rfl⟩
      have HPP : Hid (Blk wc (fun _ => 0) 0 P _) := Lib.hid ⟨HP3.out, rfl⟩
      clear hg HB3 HX3 HP3
      go_wp2_with fail
      refine (HN.out wc (fun _ => 0)).mono ?_
      rintro x w4 ⟨i, O4, rfl, hi1, hi2, hi3, hs4, hW4⟩
      have HR4 := Lib.hid (HRUN.out.step hs4 (by simp))
      have HW4 := Lib.hid hW4
      have HP4 := Lib.hid (HPP.out.step hs4 (by simp))
      have HI := Lib.hid hi3
      obtain ⟨q0, q1, q2⟩ := tri HP4.out.1
      clear hs4 hW4 HN p0 p1 p2 HRUN HPP hi3
      go_wp2_with fail
      refine (HGD.out w4).mono ?_
      rintro x w5 ⟨rfl, hb5⟩
      have hs5 := Step.of_below_same hb5 O4
      have HR5 := Lib.hid (HR4.out.step hs5 (by simp))
      have HW5 := Lib.hid (HW4.out.step hs5 (by simp) (by simp))
      clear hb5 hs5 HR4 HW4 HP4 HGD q0 q1 q2
      have e1 : (0 : Int) ≤ min (s.size : Int) 60 := by omega
      have e2 : min (s.size : Int) 60 ≤ (s.size : Int) := by omega
      have e3 : (0 : Int) ≤ (s.size : Int) := by omega
      go_upto_region 11 with (fail)
      have hs60 : (s.extract 0 (min (s.size : Int) 60).toNat).size ≤ 1000000000000 := by
        rw [ByteArray.size_extract]; omega
      have HS60 := Lib.hid hs60
      clear hs60
      generalize s.extract 0 (min (s.size : Int) 60).toNat = s' at *
      go_wp2_with fail
      refine (Rc.newdec s' HS60.out w5 O4 6).mono ?_
      rintro x w6 ⟨rfl, O6, hs6, hd6⟩
      have HL0 : Hid (Anying w i w5.heap.size 0 0 (.slice none 0 0) w6) := Lib.hid ⟨mNew lc lp pb, ⟨Dec.read s'.data.toList, qNew⟩, [], O6, ⟨HR5.out.step hs6 (by simp), HW5.out.step hs6 (by simp) (by simp), hd6, HeldP.nil _ _ _, hi1, hi2⟩, telling_new lc lp pb, Nat.le_refl _, by simp⟩
      clear hs6 hd6 HR5 HW5 hi1 hi2
      generalize w5.heap.size = D at *
      go_wp2_with fail
      go_loopw [11, 12] (fun v i' wr => ∃ k : Nat, k ≤ 100 ∧ i' = .int .i64 k ∧ Anying w i D 0 k v wr) (fun _ i' _ => 100 - (intOf i').toNat)
      case atStart => exact ⟨0, by omega, rfl, HL0.out⟩
      case round =>
        clear HL0
        obtain ⟨k, hk, rfl, m, d, l, O, hL, hT, hl, hb⟩ := hrel
        by_cases hlt : k < 100
        · have HPB := Lib.hid (codeP_b (d := d) ⟨hL.dec.2, hL.one.q⟩ m)
          have HPOS := Lib.hid hL.one.pos
          have HL := Lib.hid hL
          have HT := Lib.hid hT
          have HB := Lib.hid hb
          clear hL hT hb
          generalize hpe : (d.codeP m).pt = p at *
          have HPE := Lib.hid hpe
          clear hpe
          have hcase : ((got i.most m p).1 = ⟨0, 0, 0, 0⟩ ∧ ((got i.most m p).2.1 = true ∨ (got i.most m p).2.2.1 = false)) ∨ ∃ y, fitM i.most m p = some y ∧ got i.most m p = (p, false, true, m.tell p y) := by
            unfold got
            by_cases hE : p.k = 2 ∧ p.d = 0 ∧ p.n = 2 ∧ p.b = 0
            · rw [if_pos hE]; exact .inl ⟨rfl, .inl rfl⟩
            · rw [if_neg hE]
              cases hf : fitM i.most m p with
              | none => exact .inl ⟨rfl, .inr rfl⟩
              | some y => exact .inr ⟨y, rfl, rfl⟩
          rcases hcase with ⟨hq, he⟩ | ⟨y, hf, hg⟩
          · as_aux_lemma =>
            -- BEGIN none
            have hget := HL.out.get (show got i.most m (d.codeP m).pt = ((got i.most m p).1, (got i.most m p).2.1, (got i.most m p).2.2.1, (got i.most m p).2.2.2) by rw [HPE.out])
            rw [hq] at hget
            unfold Pk.Pt.val at hget
            simp only at hget
            have HGET := Lib.hid hget
            generalize (got i.most m p).2.1 = be at *
            generalize (got i.most m p).2.2.1 = bo at *
            clear hget hq HPB HL HT HB HPOS HPE
            go_wp2_with fail
            refine HGET.out.mono ?_
            rintro x w7 ⟨rfl, O7, hL7⟩
            clear HGET
            go_upto_region 17 with (fail)
            have hs8 := Step.alloc_paint w7 O7 8 (.cells #[.int .i64 0, .int .i64 0, .int .i64 0, .int .u8 0] 34)
            have hB8 := Blk.new w7 O7 8 (.cells #[.int .i64 0, .int .i64 0, .int .i64 0, .int .u8 0] 34)
            have HL8 := Lib.hid (hL7.other hs8.nil (Nat.lt_succ_self 7))
            clear hs8 hL7
            generalize w7.alloc (.cells #[.int .i64 0, .int .i64 0, .int .i64 0, .int .u8 0] 34) = W8 at *
            generalize Step.paint O7 w7 8 = O8 at *
            generalize w7.heap.size = Z at *
            obtain ⟨⟨d0, d1, d2, d3⟩, _, _⟩ := four hB8.1
            have hq := eq_pk ⟨0, 0, 0, 0⟩ W8
            simp only at hq
            rcases he with rfl | rfl
            · cases bo
              all_goals
                go_wp2_with fail
                go_ret
                exact ⟨rfl, HL8.out.run.below⟩
            · cases be
              all_goals
                go_wp2_with fail
                go_ret
                exact ⟨rfl, HL8.out.run.below⟩
            -- END none
          · as_aux_lemma =>
            -- BEGIN some
            have hget := HL.out.get (show got i.most m (d.codeP m).pt = (p, false, true, m.tell p y) by rw [HPE.out]; exact hg)
            unfold Pk.Pt.val at hget
            have HGET := Lib.hid hget
            have HT8 := Lib.hid (telling_more HT.out (by rw [HI.out]; omega) HPOS.out hf)
            have HB8 : Hid (∀ q ∈ l ++ [p], q.b < 256) := Lib.hid (fun q hq => by
              rcases List.mem_append.1 hq with h | h
              · exact HB.out q h
              · simp at h; subst h; exact HPB.out)
            clear hget hg hf HPOS HPB HPE HB HT HL
            generalize m.tell p y = m' at *
            generalize d.code m = d' at *
            go_wp2_with fail
            refine HGET.out.mono ?_
            rintro x w7 ⟨rfl, O7, hL7⟩
            clear HGET
            go_upto_region 17 with (fail)
            have hs8 := Step.alloc_paint w7 O7 8 (.cells #[.int .i64 p.k, .int .i64 p.d, .int .i64 p.n, .int .u8 (p.b : Int)] 34)
            have hB8 := Blk.new w7 O7 8 (.cells #[.int .i64 p.k, .int .i64 p.d, .int .i64 p.n, .int .u8 (p.b : Int)] 34)
            have HL8 := Lib.hid (hL7.other hs8.nil (Nat.lt_succ_self 7))
            clear hs8 hL7
            generalize w7.alloc (.cells #[.int .i64 p.k, .int .i64 p.d, .int .i64 p.n, .int .u8 (p.b : Int)] 34) = W8 at *
            generalize Step.paint O7 w7 8 = O8 at *
            generalize w7.heap.size = Z at *
            obtain ⟨⟨d0, d1, d2, d3⟩, _, _⟩ := four hB8.1
            have HROW := Lib.hid HL8.out.held.row
            obtain ⟨i0, hi, hz0, hz1, hz2⟩ := info_parts Pl.infoPk
            have hm1 : l.length + 1 ≤ maxLen := by unfold maxLen; omega
            have hm2 : (l.length + 1) * 32 ≤ 140737488355328 := by omega
            go_upto_region 19 with (fail)
            go_wp2_with (at_builtin; refine wpList_append_one _ rfl _ _ 32 rfl 34 i0 (.agg #[.int .i64 0, .int .i64 0, .int .i64 0, .int .u8 0]) 4 32 Try.underlying32 hi hz0 hz1 hz2 rfl (by decide) u11 l.length _ rfl (HROW.out.alloc _) ⟨W8.heap.size, 0, none⟩ 1 [.int .i64 p.k, .int .i64 p.d, .int .i64 p.n, .int .u8 (p.b : Int)] rfl rfl (Pl.pt_news (heap_alloc_new _ _)) (Pl.pt_one _ _ _ _) hm1 hm2 ?_; intro g9 cap9 w10 hown10 hgr10 hmv10; obtain ⟨O10, hL10⟩ := HL8.out.add rfl hown10 hgr10 hmv10; have HL10 := Lib.hid hL10; clear hL10 hown10 hgr10 hmv10)
            clear HROW HL8 d0 d1 d2 d3 hB8
            obtain ⟨hn, hpts⟩ := HL10.out.held.ptsS HB8.out
            have hap := apply_any_at HL10.out.held HB8.out (by simp; omega) HT8.out
            have HAP := Lib.hid hap
            have hwl := HL10.out.one.len
            have hwe := HL10.out.one.wmE
            have HTXT := Lib.hid (fun W (hb : Below w10.heap.size w10 W) => model_text (HL10.out.one.step (Step.of_below_same hb O10) (by simp) (by simp)))
            have hle : decide (max most 0 < ((⟨m'.l.toArray⟩ : ByteArray).size : Int)) = false := decide_eq_false (by
              have e : (⟨m'.l.toArray⟩ : ByteArray).size = m'.l.length := rfl
              rw [e]
              have := HI.out
              omega)
            have hle2 : decide (max most 0 < (m'.l.length : Int)) = false := hle
            have hst : ((⟨m'.l.toArray⟩ : ByteArray).toList != (⟨m'.l.toArray⟩ : ByteArray).toList) = false := by simp
            clear hn hpts hap hwl hwe
            go_wp2_with fail
            refine HAP.out.mono ?_
            rintro x w11 ⟨rfl, hb11⟩
            have HL11 := Lib.hid (HL10.out.idle (Step.of_below_same hb11 O10))
            have HTX := Lib.hid (HTXT.out w11 hb11)
            clear hb11 HAP HTXT
            go_wp2_with fail
            refine HTX.out.mono ?_
            rintro x w12 ⟨rfl, rfl⟩
            go_wp2_with fail
            go_roundw
            case rel => exact ⟨k + 1, by omega, by go_num, m', d', l ++ [p], O10, HL11.out, HT8.out, by simp; omega, HB8.out⟩
            case measure => simp [intOf]; omega
            -- END some
        · as_aux_lemma =>
          have HL := Lib.hid hL
          clear hL hT hb
          go_wp2_with fail
          go_ret
          exact ⟨rfl, HL.out.run.below⟩
end Go.Proofs.Ytkjmkojbfjockaa.Mo
