/-
  Package bst: the contract of plant.
-/
import Derived.Test.YtoneghmahdjgbaaGreatPk09

set_option linter.unusedVariables false
namespace Go.Proofs.YtoneghmahdjgbaaGreat.Bs
open Go.RowKit Go.Maps
open Mt
open Ch (bt bt_at bt_lt Dm ret_num Founds)
theorem root_lt {c : Nat → Int} {v : Int} {t : Tr} {x : Nat} (h : Tre c v t) (hx : ∀ y, t.mem y → y < x) : v < (x : Int) ∧ -1 ≤ v := by
  cases t with
  | nil => have : v = -1 := h; omega
  | node y l r =>
    have h1 : v = (y : Int) := h.1
    have h2 := hx y (.inl rfl)
    omega
theorem recM_step {b : Nat → Nat} {p k : Nat} {ms : List Nat} {l : List (Nat × Nat)} {longest x : Nat} (h : ∀ rest, recM b p k (ms ++ rest) 0 = l ++ recM b p k rest longest) :
    ∀ rest, recM b p k ((ms ++ [x]) ++ rest) 0 = (if longest < mat b p x 0 k then l ++ [(mat b p x 0 k, p - x)] else l) ++ recM b p k rest (if longest < mat b p x 0 k then mat b p x 0 k else longest) := by
  intro rest
  rw [List.append_assoc, h ([x] ++ rest)]
  show l ++ recM b p k (x :: rest) longest = _
  rw [recM]
  split <;> simp
/-- A finder whose nodes are being turned; what it has lies since w0 in its own colour or in new memory. -/
structure Turning (w0 w : World) (O : Paint) (c a : Nat) (s : ByteArray) (window : Int) (p B g cap : Nat) (xs : List Int) (D : Dm) (X Y longest : Nat) (u : Value) (l : List (Nat × Nat)) : Prop where
  bin : BinAt w O c a s window p (p + 1) B (.slice (some ⟨g, 0, none⟩) s.size cap) xs D
  met : Met w0 w X Y longest u l
  st : Step [c] w0 O w O
  old : a < w0.heap.size ∧ B < w0.heap.size ∧ g < w0.heap.size
section
variable {w0 w w' : World} {O : Paint} {c a : Nat} {s : ByteArray} {window : Int} {p B g cap : Nat} {xs : List Int} {D : Dm} {X Y longest : Nat} {u : Value} {l : List (Nat × Nat)}
theorem Turning.drewN (h : Turning w0 w O c a s window p B g cap xs D X Y longest u l) (n : Nat) : Turning w0 (w.drewN n) O c a s window p B g cap xs D X Y longest u l := ⟨h.bin.drewN n, h.met.drewN n, h.st.drewN n, h.old⟩
theorem Turning.drew (h : Turning w0 w O c a s window p B g cap xs D X Y longest u l) : Turning w0 w.drew O c a s window p B g cap xs D X Y longest u l := ⟨h.bin.drew, h.met.drewN 1, h.st.drew, h.old⟩
/-- The closure was called. -/
theorem Turning.told (h : Turning w0 w O c a s window p B g cap xs D X Y longest u l) {longest' : Nat} {u' : Value} {l' : List (Nat × Nat)} (hm : Met w0 w' X Y longest' u' l') (hb : Below w0.heap.size w w') : Turning w0 w' O c a s window p B g cap xs D X Y longest' u' l' := by
  obtain ⟨o1, o2, o3⟩ := h.old
  have hst : Step [c] w0 O w' O := ⟨⟨hb.os.trans h.st.frame.os, hb.tape.trans h.st.frame.tape, hb.output.trans h.st.frame.output, Nat.le_trans h.st.frame.size hb.size, fun k hk hn => (hb.block k hk).trans (h.st.frame.block k hk hn)⟩, h.st.ext⟩
  have hfr : Frame (fun k => w0.heap.size ≤ k) w w' := ⟨hb.os, hb.tape, hb.output, hb.size, fun k _ hn => hb.block k (by omega)⟩
  refine ⟨⟨⟨(hb.block a o1).trans h.bin.blk.1, h.bin.blk.2⟩, ⟨ownsRow_frame h.bin.nodes.row hfr (fun k hk ho => by cases hk; have o : w0.heap.size ≤ g := ho; omega), h.bin.nodes.paint, h.bin.nodes.len⟩, ?_, h.bin.ownC, h.bin.tells, h.bin.place, h.bin.small⟩, hm, hst, h.old⟩
  obtain ⟨es, clock, hbk, h1, h2, h3⟩ := h.bin.own
  exact ⟨es, clock, (hb.block B o2).trans hbk, h1, h2, h3⟩
/-- A node's cell is written. -/
theorem Turning.set (h : Turning w0 w O c a s window p B g cap xs D X Y longest u l) (j : Nat) (x : Int) : Turning w0 (w.setCell ⟨g, j, none⟩ (.int .i64 x)) O c a s window p B g cap (xs.set j x) D X Y longest u l := by
  obtain ⟨o1, o2, o3⟩ := h.old
  obtain ⟨n1, n2, n3⟩ := h.bin.ne
  have hga : a ≠ g := by rintro rfl; exact n2 rfl
  have hgB : B ≠ g := by rintro rfl; exact n3 rfl
  have hOg := h.bin.nodes.paint g rfl
  refine ⟨⟨h.bin.blk.setCell_other (p := ⟨g, j, none⟩) (Ne.symm hga) _, h.bin.nodes.set j x, h.bin.own.setCell (a := ⟨g, j, none⟩) hgB _, h.bin.ownC, h.bin.tells, h.bin.place, h.bin.small⟩, ?_, h.st.setCell (p := ⟨g, j, none⟩) (.inl (by simp [hOg])) _, h.old⟩
  exact h.met.keep ((Frame.refl _ w).setCell (p := ⟨g, j, none⟩) (.inl o3) _)
end
theorem Turning.two {w0 w : World} {O : Paint} {c a : Nat} {s : ByteArray} {window : Int} {p B g cap : Nat} {xs : List Int} {D : Dm} {X Y longest : Nat} {u : Value} {l : List (Nat × Nat)} (h : Turning w0 w O c a s window p B g cap xs D X Y longest u l) {hL hR : Nat} (h1 : hL < s.size * 2) (h2 : hR < s.size * 2) (x y : Int) :
    Turning w0 ((w.setCell ⟨g, hL, none⟩ (.int .i64 x)).setCell ⟨g, hR, none⟩ (.int .i64 y)) O c a s window p B g cap ((xs.set hL x).set hR y) D X Y longest u l ∧ cf ((xs.set hL x).set hR y) = upd (upd (cf xs) hL x) hR y := by
  have hl := h.bin.nodes.len
  exact ⟨(h.set hL x).set hR y, by rw [cf_set y (by rw [List.length_set]; omega), cf_set x (by omega)]⟩
theorem met_first {w0 W w : World} {O : Paint} {c X Y : Nat} (h : Met w0 W X Y 0 (.slice none 0 0) []) (hs : Step [c] W O w O) (hX : O X ≠ c) (hY : O Y ≠ c) : Met w0 w X Y 0 (.slice none 0 0) [] :=
  ⟨(hs.block (lt_of_heap h.hX) (by simpa using hX)).trans h.hX, (hs.block (lt_of_heap h.hY) (by simpa using hY)).trans h.hY, h.nX, h.nY, Founds.nil _ _ _, Nat.le_refl _⟩
/-- Within the loop of plant. -/
def PlLoop (w0 : World) (O : Paint) (c a : Nat) (s : ByteArray) (window : Int) (p B g cap : Nat) (t0 : Tr) (c0 : Nat → Int) (X Y : Nat) (v5 v6 v7 v8 v9 : Value) (wr : World) : Prop :=
  ∃ t v ms hL hR fL fR sL sM xs D longest u l, v5 = .int .i64 v ∧ v6 = .pointer (some ⟨g, hL, none⟩) ∧ v7 = .pointer (some ⟨g, hR, none⟩) ∧ v8 = .int .i64 (sL : Nat) ∧ v9 = .int .i64 (sM : Nat) ∧
    Turning w0 wr O c a s window p B g cap xs D X Y longest u l ∧ Plant (bt s) (lim s) p (lim s p) window t0 c0 (cf xs) t v ms hL hR fL fR sL sM ∧ ∀ rest, recM (bt s) p (lim s p) (ms ++ rest) 0 = l ++ recM (bt s) p (lim s p) rest longest
/-- What plant leaves. -/
def PlantTo (w0 : World) (O : Paint) (c a : Nat) (s : ByteArray) (window : Int) (p B g cap : Nat) (t0 : Tr) (c0 : Nat → Int) (X Y : Nat) (x : Ending) (w' : World) : Prop :=
  x = .returned (.tuple #[]) ∧ ∃ xs D longest u, Turning w0 w' O c a s window p B g cap xs D X Y longest u (recM (bt s) p (lim s p) (t0.split (bt s) p (lim s p) window).1 0) ∧ Planted (bt s) p (lim s p) window t0 c0 (cf xs)
section
variable {w0 w w' : World} {O : Paint} {c a : Nat} {s : ByteArray} {window : Int} {p B g cap : Nat} {xs : List Int} {D : Dm} {X Y longest : Nat} {u : Value} {l : List (Nat × Nat)} {t0 : Tr}
set_option maxRecDepth 100000 in
set_option maxHeartbeats 8000000 in
theorem plant_any (hb : BinAt w O c a s window p p B (.slice (some ⟨g, 0, none⟩) s.size cap) xs D) (hm : Met w0 w X Y 0 (.slice none 0 0) []) (hst : Step [c] w0 O w O) (hold : a < w0.heap.size ∧ B < w0.heap.size ∧ g < w0.heap.size) (hp : p + 2 ≤ s.size) (hXc : O X ≠ c) (hYc : O Y ≠ c)
    (ht : Tre (cf xs) (prev2 (bt s) p p) t0) (hok : t0.ok (bt s) (lim s)) (hmem : ∀ y, t0.mem y → y < p ∧ heads2 (bt s) p y = true) (hw0 : -9223372036854775808 ≤ window) (hw1 : window ≤ 9223372036854775807) :
    Calls Tryz.prog 62 #[.pointer (some ⟨a, 0, none⟩), .func (.func 63) #[] #[.pointer (some ⟨X, 0, none⟩), .pointer (some ⟨Y, 0, none⟩)]] w (PlantTo w0 O c a s window p B g cap t0 (cf xs) X Y) := by
  obtain ⟨h0, h1, h2, h3, h4⟩ := hb.cells
  have hsm := hb.small
  have hps := hb.place
  have HLF := Lib.hid (left_raw h0 h2 hps hsm)
  have HB := Lib.hid hb
  have HM := Lib.hid hm
  have HST := Lib.hid hst
  have hk2 : 2 ≤ lim s p := by unfold lim; omega
  have hkm : p + lim s p ≤ s.size := by unfold lim; omega
  have hk3 : lim s p ≤ 273 := by unfold lim; omega
  have HMI := Lib.hid (show lim s p = min (s.size - p) 273 from rfl)
  have HP0 := Lib.hid (plant_start (lim := lim s) (W := window) ht hok hmem (fun y hy => by unfold lim; omega) hk2)
  have HME := Lib.hid hmem
  clear hb hm hst ht hok hmem hk2
  go_enter Tryz.func62, Tryz.ntmps62
  go_wp2_with fail
  refine HLF.out.mono ?_
  rintro x w1 ⟨rfl, n1, rfl⟩
  have HB1 := Lib.hid (HB.out.drewN n1)
  have HM1 := Lib.hid (HM.out.drewN n1)
  have HST1 : Hid (Step [c] w0 O (w.drewN n1) O) := Lib.hid (HST.out.drewN n1)
  clear h0 h1 h2 h3 h4 HLF HB HM HST
  generalize w.drewN n1 = W1 at *
  go_upto_region 1 with (fail)
  have hmin : (if (273 : Int) < (s.size : Int) - (p : Int) then (273 : Int) else (s.size : Int) - (p : Int)) = ((lim s p : Nat) : Int) := by rw [HMI.out]; split <;> omega
  rw [hmin]
  clear hmin
  go_wp2_with fail
  refine (uproot_any HB1.out hp).mono ?_
  rintro x w2 ⟨rfl, D2, hs2, hb2⟩
  have HT2 := Lib.hid (show Turning w0 w2 O c a s window p B g cap xs D2 X Y 0 (.slice none 0 0) [] from ⟨hb2, met_first HM1.out hs2 hXc hYc, HST1.out.trans hs2, hold⟩)
  clear hs2 hb2 HB1 HM1 HST1
  obtain ⟨h0, h1, h2, h3, h4⟩ := HT2.out.bin.cells
  have hpx : p < s.size := by omega
  have hp0 : (0 : Int) ≤ (p : Int) := by omega
  have hpx' : (p : Int) < (s.size : Int) := by omega
  go_upto_region 2 with (fail)
  go_quiet (fail)
  have HT3 := Lib.hid (HT2.out.drewN nq)
  clear h0 h1 h2 h3 h4 HT2
  generalize w2.drewN nq = W3 at *
  have HL0 : Hid (PlLoop w0 O c a s window p B g cap t0 (cf xs) X Y (.int .i64 (prev2 (bt s) p p)) (.pointer (some ⟨g, p * 2, none⟩)) (.pointer (some ⟨g, p * 2 + 1, none⟩)) (.int .i64 2) (.int .i64 2) W3) := Lib.hid ⟨_, _, _, _, _, _, _, 2, 2, _, _, _, _, _, rfl, by rw [Nat.mul_comm], by rw [Nat.mul_comm], rfl, rfl, HT3.out, HP0.out, fun rest => rfl⟩
  clear HT3 HP0
  generalize cf xs = c0 at *
  generalize prev2 (bt s) p p = v0 at *
  generalize hKe : lim s p = k at *
  have HKE := Lib.hid hKe
  clear hKe
  go_wp2_with fail
  go_loopw [5, 6, 7, 8, 9] (fun v5 v6 v7 v8 v9 wr => PlLoop w0 O c a s window p B g cap t0 c0 X Y v5 v6 v7 v8 v9 wr) (fun v5 _ _ _ _ _ => (intOf v5 + 1).toNat)
  case atStart => exact HL0.out
  case round =>
    clear HL0
    obtain ⟨t, v, ms, hL, hR, fL, fR, sL, sM, xs, D, longest, u, l, rfl, rfl, rfl, rfl, rfl, hT, hP, hrec⟩ := hrel
    rw [HKE.out] at hP hrec
    have hofL : hL < s.size * 2 := by
      obtain ⟨y, hy, hi⟩ := hP.ofL
      rcases hy with rfl | hy
      · omega
      · have := (HME.out y hy).1; omega
    have hofR : hR < s.size * 2 := by
      obtain ⟨y, hy, hi⟩ := hP.ofR
      rcases hy with rfl | hy
      · omega
      · have := (HME.out y hy).1; omega
    have HT := Lib.hid hT
    have HP := Lib.hid hP
    have HREC := Lib.hid hrec
    clear hT hP hrec
    obtain ⟨h0, h1, h2, h3, h4⟩ := HT.out.bin.cells
    by_cases hstop : t.split (bt s) p k window = ([], .nil, .nil) ∧ (v = -1 ∨ (v ≠ -1 ∧ -1 ≤ v ∧ v < p ∧ window < (p : Int) - v))
    · as_aux_lemma =>
      -- BEGIN stop
      obtain ⟨hst, hv⟩ := hstop
      obtain ⟨hms, hpl⟩ := HP.out.stop hst
      have hlm : l = recM (bt s) p k ms 0 := by have := HREC.out []; rw [List.append_nil] at this; rw [this, recM, List.append_nil]
      have HFIN := Lib.hid (show l = recM (bt s) p (lim s p) (t0.split (bt s) p (lim s p) window).1 0 by rw [HKE.out, hms]; exact hlm)
      have HPL := Lib.hid (show Planted (bt s) p (lim s p) window t0 c0 (upd (upd (cf xs) hL (-1)) hR (-1)) by rw [HKE.out]; exact hpl)
      have HTW := Lib.hid (fun n => (HT.out.drewN n).two hofL hofR (-1) (-1))
      have x0 := fun n => (HT.out.drewN n).bin.nodes.cell hofL
      have x1 := HT.out.bin.nodes.free hL
      have x2 := fun n => ((HT.out.drewN n).set hL (-1)).bin.nodes.cell hofR
      have x3 := fun n => ((HT.out.drewN n).set hL (-1)).bin.nodes.free hR
      clear hst hms hpl hlm HP
      rcases hv with rfl | ⟨hv1, hv2, hv3, hv4⟩
      · go_wp2_with fail
        go_quiet (fail)
        have y2 := x2 nq
        have y3 := x3 nq
        clear x2 x3
        go_wp2_with fail
        go_end0
        exact ⟨rfl, _, _, _, _, by rw [← HFIN.out]; exact (HTW.out nq).1, by rw [(HTW.out nq).2]; exact HPL.out⟩
      · obtain ⟨x, rfl⟩ : ∃ x : Nat, v = x := ⟨v.toNat, by omega⟩
        have e1 : ((x : Int) != -1) = true := by rw [bne_iff_ne]; omega
        have e2 : decide ((p : Int) - (x : Int) ≤ window) = false := by simp; omega
        have e4 : IntKind.i64.wrap ((p : Int) - (x : Int)) = (p : Int) - (x : Int) := IntWalk.i64_in _ (by omega)
        clear hv1 hv2 hv4
        go_wp2_with fail
        go_quiet (fail)
        clear e4
        have y2 := x2 nq
        have y3 := x3 nq
        clear x2 x3
        go_wp2_with fail
        go_end0
        exact ⟨rfl, _, _, _, _, by rw [← HFIN.out]; exact (HTW.out nq).1, by rw [(HTW.out nq).2]; exact HPL.out⟩
      -- END stop
    · cases t with
      | nil => exact absurd ⟨rfl, .inl HP.out.none⟩ hstop
      | node x tl tr =>
        obtain ⟨hv, hxp⟩ := HP.out.at
        have hw : ¬ window < (p : Int) - (x : Int) := by
          intro h
          exact hstop ⟨by rw [Tr.split, if_pos h], .inr ⟨by omega, by omega, by omega, by omega⟩⟩
        subst hv
        have HW := Lib.hid hw
        clear hstop hw
        have e1 : ((x : Int) != -1) = true := by rw [bne_iff_ne]; omega
        have e2 : decide ((p : Int) - (x : Int) ≤ window) = true := by have := HW.out; simp; omega
        have e4 : IntKind.i64.wrap ((p : Int) - (x : Int)) = (p : Int) - (x : Int) := IntWalk.i64_in _ (by omega)
        go_wp2_with fail
        go_quiet (fail)
        clear e4
        have HT1 := Lib.hid (HT.out.drewN nq)
        clear HT h0 h1 h2 h3 h4
        generalize wr.drewN nq = W1 at *
        obtain ⟨h0, h1, h2, h3, h4⟩ := HT1.out.bin.cells
        have hsLk := HP.out.sLk
        have hsMk := HP.out.sMk
        have HKN := Lib.hid (HP.out.known (x := x) (.inl rfl))
        have hle := mat_le (bt s) p x k 0
        rw [Nat.zero_add] at hle
        go_upto_region 5 with (fail)
        go_cut [10] (fun v10 wc => v10 = .int .i64 (mat (bt s) p x 0 k : Int) ∧ ∃ m, wc = W1.drewN m)
        case first =>
          as_aux_lemma =>
          -- BEGIN match
          by_cases hmm : sM < sL
          · have hk := HKN.out
            rw [show min sL sM = sM from by omega] at hk
            have HK := Lib.hid hk
            have HMT := Lib.hid (matching_raw (q := x) (m0 := sM) (most := k) h0 h2 hxp hkm hsm hsMk)
            rw [← HK.out] at HMT
            have hmm2 : decide (sM < sL) = true := by simpa using hmm
            clear hk HK HKN HP
            generalize mat (bt s) p x 0 k = n at *
            go_wp2_with fail
            refine HMT.out.mono ?_
            rintro y w4 ⟨rfl, n4, rfl⟩
            go_wp2_with fail
            go_meet
            exact ⟨rfl, n4, rfl⟩
          · have hk := HKN.out
            rw [show min sL sM = sL from by omega] at hk
            have HK := Lib.hid hk
            have HMT := Lib.hid (matching_raw (q := x) (m0 := sL) (most := k) h0 h2 hxp hkm hsm hsLk)
            rw [← HK.out] at HMT
            have hmm2 : decide (sM < sL) = false := by simpa using hmm
            clear hk HK HKN HP
            generalize mat (bt s) p x 0 k = n at *
            go_wp2_with fail
            refine HMT.out.mono ?_
            rintro y w4 ⟨rfl, n4, rfl⟩
            go_wp2_with fail
            go_meet
            exact ⟨rfl, n4, rfl⟩
          -- END match
        case rest =>
          obtain ⟨rfl, m4, rfl⟩ := hcut
          have HT2 := Lib.hid (HT1.out.drewN m4)
          clear HT1 h0 h1 h2 h3 h4 HKN
          generalize W1.drewN m4 = W2 at *
          obtain ⟨h0, h1, h2, h3, h4⟩ := HT2.out.bin.cells
          have e4 : IntKind.i64.wrap ((p : Int) - (x : Int)) = (p : Int) - (x : Int) := IntWalk.i64_in _ (by omega)
          have e5 : (p : Int) - (x : Int) = ((p - x : Nat) : Int) := by omega
          have HMC := Lib.hid (met_any HT2.out.met (mat (bt s) p x 0 k) (p - x) (by omega) HT2.out.st.size)
          rw [← e5] at HMC
          clear e5
          have hrs := recM_step (x := x) HREC.out
          have HRS := Lib.hid hrs
          clear hrs HREC
          go_wp2_with fail
          refine HMC.out.mono ?_
          rintro y w5 ⟨rfl, u5, hm5, hb5⟩
          have HT5 := Lib.hid (HT2.out.told hm5 hb5)
          clear hm5 hb5 HMC HT2 h0 h1 h2 h3 h4 e4
          obtain ⟨h0, h1, h2, h3, h4⟩ := HT5.out.bin.cells
          obtain ⟨l5, hl5⟩ : ∃ l5, l5 = (if longest < mat (bt s) p x 0 k then l ++ [(mat (bt s) p x 0 k, p - x)] else l) := ⟨_, rfl⟩
          obtain ⟨lo5, hlo5⟩ : ∃ lo5, lo5 = (if longest < mat (bt s) p x 0 k then mat (bt s) p x 0 k else longest) := ⟨_, rfl⟩
          rw [← hl5, ← hlo5] at HT5 HRS
          clear hl5 hlo5
          have hxs : x < s.size := by omega
          have hx0 : (0 : Int) ≤ (x : Int) := by omega
          have hxs' : (x : Int) < (s.size : Int) := by omega
          have hlen := HT5.out.bin.nodes.len
          by_cases hf : mat (bt s) p x 0 k = k
          · as_aux_lemma =>
            -- BEGIN full
            obtain ⟨hms, hpl⟩ := HP.out.full (by have := HW.out; omega) hf
            have hlm := HRS.out []
            rw [List.append_nil, recM, List.append_nil] at hlm
            have HFIN := Lib.hid (show l5 = recM (bt s) p (lim s p) (t0.split (bt s) p (lim s p) window).1 0 by rw [HKE.out, hms]; exact hlm.symm)
            have HPL := Lib.hid (show Planted (bt s) p (lim s p) window t0 c0 (upd (upd (cf xs) hL (cf xs (x * 2))) hR (cf xs (x * 2 + 1))) by rw [HKE.out, Nat.mul_comm x 2]; exact hpl)
            have c0' : w5.cell? ⟨g, x * 2, none⟩ = some (.int .i64 (cf xs (x * 2))) := HT5.out.bin.nodes.cell (by omega)
            have c1' : w5.cell? ⟨g, x * 2 + 1, none⟩ = some (.int .i64 (cf xs (x * 2 + 1))) := HT5.out.bin.nodes.cell (by omega)
            have x0 := HT5.out.bin.nodes.cell hofL
            have x1 := HT5.out.bin.nodes.free hL
            have x2 := HT5.out.bin.nodes.cell hofR
            have x3 := HT5.out.bin.nodes.free hR
            have hne := HP.out.ne
            have hfe : ((mat (bt s) p x 0 k : Int) == (k : Int)) = true := by rw [hf]; simp
            generalize cf xs (x * 2) = va at *
            generalize cf xs (x * 2 + 1) = vb at *
            have HTW := Lib.hid (HT5.out.drew.two hofL hofR va vb)
            have z0 := (HT5.out.drew.set hL va).bin.nodes.cell hofR
            have z1 := (HT5.out.drew.set hL va).bin.nodes.free hR
            have z2 := (HT5.out.drew.set hR vb).bin.nodes.cell hofL
            have z3 := (HT5.out.drew.set hR vb).bin.nodes.free hL
            clear hms hpl hlm HP HRS hf
            go_upto_region 8 with (fail)
            go_region
            all_goals
              go_wp2_with fail
              refine bodyPost_ret (v := .tuple #[]) (by simp [results, Tryz.results62]) rfl ?_
              first
              | exact ⟨rfl, _, _, _, _, by rw [← HFIN.out]; exact HTW.out.1, by rw [HTW.out.2]; exact HPL.out⟩
              | exact ⟨rfl, _, _, _, _, by rw [← HFIN.out]; exact HTX.out, by rw [HTW.out.2]; exact HPL.out⟩
            -- END full
          · have hfe : ((mat (bt s) p x 0 k : Int) == (k : Int)) = false := by rw [beq_eq_false_iff_ne]; omega
            have hnk : mat (bt s) p x 0 k < k := by omega
            have HME5 := Lib.hid (mat_end (bt s) p x k 0 (by omega))
            obtain ⟨n, hn⟩ : ∃ n, n = mat (bt s) p x 0 k := ⟨_, rfl⟩
            have hpn : p + n < s.size := by omega
            have hxn : x + n < s.size := by omega
            have a1 : (0 : Int) ≤ (p : Int) + (n : Int) := by omega
            have a2 : (p : Int) + (n : Int) < (s.size : Int) := by omega
            have a3 : ((p : Int) + (n : Int)).toNat = p + n := by omega
            have a4 : IntKind.i64.wrap ((p : Int) + (n : Int)) = (p : Int) + (n : Int) := IntWalk.i64_in _ (by omega)
            have d1 : (0 : Int) ≤ (x : Int) + (n : Int) := by omega
            have d2 : (x : Int) + (n : Int) < (s.size : Int) := by omega
            have d3 : ((x : Int) + (n : Int)).toNat = x + n := by omega
            have d4 : IntKind.i64.wrap ((x : Int) + (n : Int)) = (x : Int) + (n : Int) := IntWalk.i64_in _ (by omega)
            clear hle hf
            by_cases hc : bt s (x + mat (bt s) p x 0 k) < bt s (p + mat (bt s) p x 0 k)
            · as_aux_lemma =>
              -- BEGIN less
              have hpl := HP.out.less (by have := HW.out; omega) hnk hc
              have hlt := root_lt hpl.cur (fun y hy => (HP.out.ok.2.1 y hy).1)
              have hne := hpl.outR
              have hL2 := (HP.out.outL x (.inl rfl))
              rw [← hn] at hc hpl hnk hfe
              have hcv : cf (xs.set hL (x : Int)) (x * 2 + 1) = cf xs (2 * x + 1) := by rw [cf_set _ (by omega), upd_other _ (by omega), Nat.mul_comm]
              rw [← cf_set _ (by omega)] at hpl
              have hdec : decide ((s[x + n].toNat : Int) < (s[p + n].toNat : Int)) = true := by rw [bt_at, bt_at]; simp; omega
              have hdec2 : s[x + n].toNat < s[p + n].toNat := by rw [bt_at, bt_at]; exact hc
              have HPL := Lib.hid hpl
              have HTS := Lib.hid (fun m => (HT5.out.drewN m).set hL (x : Int))
              have x0 := fun m => (HT5.out.drewN m).bin.nodes.cell hofL
              have x1 := HT5.out.bin.nodes.free hL
              have x2 := fun m => (HTS.out m).bin.nodes.cell (show x * 2 + 1 < s.size * 2 by omega)
              rw [hcv] at x2
              have HRS2 := Lib.hid HRS.out
              clear hpl hc hne hL2 hcv HP HRS
              generalize cf xs (2 * x + 1) = v' at *
              generalize mat (bt s) p x 0 k = n0 at *
              subst hn
              go_wp2_with fail
              go_quiet (fail)
              clear a4 d4
              go_upto_region 11 with (fail)
              have HT6 := Lib.hid (HTS.out nq)
              have y2 := x2 nq
              clear HTS x0 x1 x2 HT5 h0 h1 h2 h3 h4
              generalize (w5.drewN nq).setCell ⟨g, hL, none⟩ (.int .i64 (x : Int)) = W6 at *
              obtain ⟨h0, h1, h2, h3, h4⟩ := HT6.out.bin.cells
              go_wp2_with fail
              go_roundw
              case rel => exact ⟨_, _, _, _, _, _, _, n, sM, _, _, _, _, _, rfl, by rw [Nat.mul_comm], rfl, rfl, rfl, HT6.out, by rw [HKE.out]; exact HPL.out, by rw [HKE.out]; exact HRS2.out⟩
              case measure => simp [intOf]; omega
              -- END less
            · as_aux_lemma =>
              -- BEGIN more
              have hpl := HP.out.more (by have := HW.out; omega) hnk hc
              have hlt := root_lt hpl.cur (fun y hy => (HP.out.ok.1 y hy).1)
              have hne := hpl.outL
              have hL2 := (HP.out.outR x (.inl rfl))
              rw [← hn] at hc hpl hnk hfe
              have hcv : cf (xs.set hR (x : Int)) (x * 2) = cf xs (2 * x) := by rw [cf_set _ (by omega), upd_other _ (by omega), Nat.mul_comm]
              rw [← cf_set _ (by omega)] at hpl
              have hdec : decide ((s[x + n].toNat : Int) < (s[p + n].toNat : Int)) = false := by rw [bt_at, bt_at]; simp; omega
              have hdec2 : ¬ s[x + n].toNat < s[p + n].toNat := by rw [bt_at, bt_at]; exact hc
              have HPL := Lib.hid hpl
              have HTS := Lib.hid (fun m => (HT5.out.drewN m).set hR (x : Int))
              have x0 := fun m => (HT5.out.drewN m).bin.nodes.cell hofR
              have x1 := HT5.out.bin.nodes.free hR
              have x2 := fun m => (HTS.out m).bin.nodes.cell (show x * 2 < s.size * 2 by omega)
              rw [hcv] at x2
              have HRS2 := Lib.hid HRS.out
              clear hpl hc hne hL2 hcv HP HRS
              generalize cf xs (2 * x) = v' at *
              generalize mat (bt s) p x 0 k = n0 at *
              subst hn
              go_wp2_with fail
              go_quiet (fail)
              clear a4 d4
              go_upto_region 14 with (fail)
              have HT6 := Lib.hid (HTS.out nq)
              have y2 := x2 nq
              clear HTS x0 x1 x2 HT5 h0 h1 h2 h3 h4
              generalize (w5.drewN nq).setCell ⟨g, hR, none⟩ (.int .i64 (x : Int)) = W6 at *
              obtain ⟨h0, h1, h2, h3, h4⟩ := HT6.out.bin.cells
              go_wp2_with fail
              go_roundw
              case rel => exact ⟨_, _, _, _, _, _, _, sL, n, _, _, _, _, _, rfl, rfl, by rw [Nat.mul_comm], rfl, rfl, HT6.out, by rw [HKE.out]; exact HPL.out, by rw [HKE.out]; exact HRS2.out⟩
              case measure => simp [intOf]; omega
              -- END more
end
end Go.Proofs.YtoneghmahdjgbaaGreat.Bs
