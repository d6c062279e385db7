/-
  The walk of the statement LzencWrites: for all numbers and every list of packets it returns true, and writes nothing that was there.
  Statement LzencWrites: for every input the call returns true and its arguments read as before. The row's frame; no condition beside the statement's own.
-/
import Derived.Test.YtollngjnoccmfaaCoded
import Derived.Test.YtollngjnoccmfaaLzEnds
import Derived.Test.YtollngjnoccmfaaOpens
import Derived.Test.YtollngjnoccmfaaRows
import Derived.WalkKit
import Derived.ProofKit
import Derived.OpenShut
import Derived.ShutString
import Derived.ChangeOld
import Derived.Below
section
set_option linter.unusedVariables false
set_option linter.unusedSimpArgs false
namespace Go.Proofs.Ytollngjnoccmfaa.Cd
open Go.RowKit Go.Maps
open Rc Mo Lz Dc
open Pk (Rp Pt four IsPts IsPt applyL)
/-- What Upto hands back. -/
noncomputable def uptoV (x : Option Pr) (most : Int) : Value := match x with
  | none => .tuple #[.string ⟨#[]⟩, .bool false]
  | some x => if ((encB x false).length : Int) < most then .tuple #[.string ⟨(encB x false).toArray⟩, .bool true] else .tuple #[.string ⟨#[]⟩, .bool false]
set_option maxRecDepth 100000 in
theorem upto12_any (lc lp pb : Nat) (hl : lc + lp ≤ 4) (hpb : pb ≤ 4) (most : Int) {a : Option Addr} {ps : List Pt} {cap : Nat} {w : World} (h : IsPts w a ps) (hn : ps.length ≤ 1000) :
    Calls Try.prog 13 #[.slice a ps.length cap, .agg #[.int .i64 (lc : Int), .int .i64 (lp : Int), .int .i64 (pb : Int)], .int .i64 most] w fun z w' => z = .returned (uptoV (encR 16777216 (xNew lc lp pb) ps) most) ∧ Below w.heap.size w w' := by
  have hb1 : Below w.heap.size w (w.alloc (.cells #[.int .i64 (lc : Int), .int .i64 (lp : Int), .int .i64 (pb : Int)] 26)) := (Below.refl _ _).alloc (Nat.le_refl _) _
  have hz := heap_alloc_new w (.cells #[.int .i64 (lc : Int), .int .i64 (lp : Int), .int .i64 (pb : Int)] 26)
  have HEN := Lib.hid (fun W (hb : Below w.heap.size w W) => encode_any lc lp pb hl hpb false (cap := cap) (h.below hb) hn)
  clear h hl hpb hn
  have HB1 := Lib.hid hb1
  obtain ⟨p0, p1, p2⟩ := three_cells hz
  clear hb1 hz
  generalize encR 16777216 (xNew lc lp pb) ps = R at *
  cases R with
  | none =>
    unfold encV at HEN
    unfold uptoV
    dsimp only at HEN ⊢
    go_enter Try.func13, Try.ntmps13
    go_upto_region 1 with (fail)
    generalize w.alloc (.cells #[.int .i64 (lc : Int), .int .i64 (lp : Int), .int .i64 (pb : Int)] 26) = W1 at *
    go_wp2_with fail
    refine (HEN.out W1 HB1.out).mono ?_
    rintro x w2 ⟨rfl, hb2⟩
    have HB2 := Lib.hid (HB1.out.trans (hb2.mono HB1.out.size))
    clear hb2 HB1 HEN p0 p1 p2
    go_wp2_with fail
    go_ret2
    exact ⟨rfl, HB2.out⟩
  | some y =>
    unfold encV at HEN
    unfold uptoV
    obtain ⟨tx, htx⟩ : ∃ tx : ByteArray, tx = ⟨(encB y false).toArray⟩ := ⟨_, rfl⟩
    have hts : (tx.size : Int) = ((encB y false).length : Int) := by rw [htx]; rfl
    dsimp only at HEN ⊢
    rw [← htx] at HEN ⊢
    rw [← hts]
    clear htx hts
    by_cases hlen : (tx.size : Int) < most
    · rw [if_pos hlen]
      have h1 : ¬ most ≤ (tx.size : Int) := by omega
      have h2 : decide (most ≤ (tx.size : Int)) = false := decide_eq_false h1
      go_enter Try.func13, Try.ntmps13
      go_upto_region 1 with (fail)
      generalize w.alloc (.cells #[.int .i64 (lc : Int), .int .i64 (lp : Int), .int .i64 (pb : Int)] 26) = W1 at *
      go_wp2_with fail
      refine (HEN.out W1 HB1.out).mono ?_
      rintro x w2 ⟨rfl, hb2⟩
      have HB2 := Lib.hid (HB1.out.trans (hb2.mono HB1.out.size))
      clear hb2 HB1 HEN p0 p1 p2
      go_wp2_with fail
      go_ret2
      exact ⟨rfl, HB2.out⟩
    · rw [if_neg hlen]
      have h1 : most ≤ (tx.size : Int) := by omega
      have h2 : decide (most ≤ (tx.size : Int)) = true := decide_eq_true h1
      go_enter Try.func13, Try.ntmps13
      go_upto_region 1 with (fail)
      generalize w.alloc (.cells #[.int .i64 (lc : Int), .int .i64 (lp : Int), .int .i64 (pb : Int)] 26) = W1 at *
      go_wp2_with fail
      refine (HEN.out W1 HB1.out).mono ?_
      rintro x w2 ⟨rfl, hb2⟩
      have HB2 := Lib.hid (HB1.out.trans (hb2.mono HB1.out.size))
      clear hb2 HB1 HEN p0 p1 p2
      go_wp2_with fail
      go_ret2
      exact ⟨rfl, HB2.out⟩
set_option maxRecDepth 100000 in
theorem encode_bad (lc lp pb : Int) (h1 : -9223372036854775808 ≤ lc ∧ lc ≤ 9223372036854775807) (h2 : -9223372036854775808 ≤ lp ∧ lp ≤ 9223372036854775807) (h : goodB lc lp pb = false) (v : Value) (fin : Bool) (w : World) :
    Calls Try.prog 12 #[v, .agg #[.int .i64 lc, .int .i64 lp, .int .i64 pb], .bool fin] w fun z w' => z = .returned (.tuple #[.string ⟨#[]⟩, .int .i64 1]) ∧ Below w.heap.size w w' := by
  have hb1 : Below w.heap.size w (w.alloc (.cells #[.int .i64 lc, .int .i64 lp, .int .i64 pb] 26)) := (Below.refl _ _).alloc (Nat.le_refl _) _
  have hz := heap_alloc_new w (.cells #[.int .i64 lc, .int .i64 lp, .int .i64 pb] 26)
  have HG := Lib.hid (fun W => good_any lc lp pb h1 h2 W)
  rw [h] at HG
  clear h h1 h2
  go_enter Try.func12, Try.ntmps12
  go_upto_region 1 with (fail)
  have HB1 := Lib.hid hb1
  obtain ⟨p0, p1, p2⟩ := three_cells hz
  clear hb1 hz
  generalize w.alloc (.cells #[.int .i64 lc, .int .i64 lp, .int .i64 pb] 26) = W1 at *
  go_wp2_with fail
  refine (HG.out W1).mono ?_
  rintro x w2 ⟨rfl, hb2⟩
  have HB2 := Lib.hid (HB1.out.trans (hb2.mono HB1.out.size))
  clear hb2 HB1 HG p0 p1 p2
  go_wp2_with fail
  go_ret2
  exact ⟨rfl, HB2.out⟩
theorem start_bytes (lc lp pb : Nat) : encB (xNew lc lp pb) false = [0, 0, 0, 0, 0] := by
  show Enc.start.bytes = _
  decide +kernel
set_option maxRecDepth 100000 in
theorem speaks12 (w : World) : Calls Try.prog 9 #[] w fun x w' => x = .returned (.bool true) ∧ Below w.heap.size w w' := by
  have HE := Lib.hid (fun W => encode_any 3 0 0 (by omega) (by omega) false (a := none) (ps := []) (cap := 0) (w := W) (.inl rfl) (by simp))
  have HB := Lib.hid (fun W => encode_bad 3 2 0 (by omega) (by omega) (by decide) (.slice none 0 0) false W)
  have HU := Lib.hid (fun W => upto12_any 0 0 0 (by omega) (by omega) 6 (a := none) (ps := []) (cap := 0) (w := W) (.inl rfl) (by simp))
  have e1 : encV (encR 16777216 (xNew 3 0 0) []) false = .tuple #[.string ⟨#[0, 0, 0, 0, 0]⟩, .int .i64 0] := by
    show encV (some (xNew 3 0 0)) false = _
    unfold encV
    dsimp only
    rw [start_bytes]
  have e2 : uptoV (encR 16777216 (xNew 0 0 0) []) 6 = .tuple #[.string ⟨#[0, 0, 0, 0, 0]⟩, .bool true] := by
    show uptoV (some (xNew 0 0 0)) 6 = _
    unfold uptoV
    dsimp only
    rw [start_bytes]
    rfl
  rw [e1] at HE
  rw [e2] at HU
  clear e1 e2
  go_enter Try.func9, Try.ntmps9
  go_wp2_with fail
  refine (show Calls Try.prog 12 #[.slice none 0 0, .agg #[.int .i64 3, .int .i64 0, .int .i64 0], .bool false] w _ from HE.out w).mono ?_
  rintro x w1 ⟨rfl, hb1⟩
  have HB1 := Lib.hid hb1
  clear hb1 HE
  go_wp2_with fail
  refine (HB.out w1).mono ?_
  rintro x w2 ⟨rfl, hb2⟩
  have HB2 := Lib.hid (HB1.out.trans (hb2.mono HB1.out.size))
  clear hb2 HB HB1
  go_wp2_with fail
  refine (show Calls Try.prog 13 #[.slice none 0 0, .agg #[.int .i64 0, .int .i64 0, .int .i64 0], .int .i64 6] w2 _ from HU.out w2).mono ?_
  rintro x w3 ⟨rfl, hb3⟩
  have HB3 := Lib.hid (HB2.out.trans (hb3.mono HB2.out.size))
  clear hb3 HU HB2
  go_wp2_with fail
  go_ret
  exact ⟨rfl, HB3.out⟩
set_option maxRecDepth 100000 in
set_option maxHeartbeats 16000000 in
theorem lzw_walk (x0 x1 x2 : Nat) (a0 : Option Addr) (len cap : Nat) (fin : Bool) (w : World) (ps : List Pt) (h0 : x0 < 256) (h1 : x1 < 256) (h2 : x2 < 256) (hps : ps.length = min len 40) (hpb : ∀ p ∈ ps, p.b < 256) (hlen : len ≤ maxLen) (h : IsPts w a0 ps) :
    Calls Try.prog 3 #[.agg #[.int .u8 (x0 : Int), .int .u8 (x1 : Int), .int .u8 (x2 : Int)], .slice a0 len cap, .bool fin] w fun x w' => x = .returned (.bool true) ∧ Below w.heap.size w w' := by
  have HIP := Lib.hid h
  have HPS := Lib.hid hps
  have HPX := Lib.hid hpb
  have h40 : ps.length ≤ 40 := by omega
  have hpl : ps.length ≤ len := by omega
  have HPA := Lib.hid (fun W => params11_any x0 x1 x2 h0 h1 h2 W)
  have HSUM := par_sum x0 x1
  have HPB : x2 % 5 ≤ 4 := by omega
  have hb1 : Below w.heap.size w (w.alloc (.cells #[.int .u8 (x0 : Int), .int .u8 (x1 : Int), .int .u8 (x2 : Int)] 22)) := (Below.refl _ _).alloc (Nat.le_refl _) _
  have hB := heap_alloc_new w (.cells #[.int .u8 (x0 : Int), .int .u8 (x1 : Int), .int .u8 (x2 : Int)] 22)
  have HBX := Lib.hid hB
  have HB1 := Lib.hid hb1
  generalize parL x0 = lc at *
  generalize parP x0 x1 = lp at *
  generalize x2 % 5 = pb at *
  have HCD := Lib.hid (fun (fin : Bool) (W : World) (hb : Below w.heap.size w W) => coded_any lc lp pb HSUM HPB a0 len cap fin W ps HPS.out HPX.out hlen (h.below hb))
  have HEC := Lib.hid (enc_coded lc lp pb HPX.out)
  have HIV := Lib.hid (Inv.all lc lp pb HPX.out ps.length (Nat.le_refl _))
  rw [List.take_length] at HIV
  have HEN := Lib.hid (fun (fin : Bool) (a : Option Addr) (qs : List Pt) (c : Nat) (W : World) (hq : IsPts W a qs) (hn : qs.length ≤ 1000) => encode_any lc lp pb HSUM HPB fin (cap := c) hq hn)
  have HUP := Lib.hid (fun (most : Int) (a : Option Addr) (qs : List Pt) (c : Nat) (W : World) (hq : IsPts W a qs) (hn : qs.length ≤ 1000) => upto12_any lc lp pb HSUM HPB most (cap := c) hq hn)
  have HAE := Lib.hid (apply_enc (N := 16777216) ps (xNew lc lp pb) (xNew_pos lc lp pb) HPX.out)
  have HET := Lib.hid (fun y (hy : encR 16777216 (xNew lc lp pb) ps = some y) => encR_turns HPX.out hy)
  unfold maxLen at hlen
  clear h hps hpb h0 h1 h2 hb1 hB HSUM HPB
  generalize codA (xNew lc lp pb) ps = z at *
  go_enter Try.func3, Try.ntmps3
  go_upto_region 1 with (fail)
  generalize w.alloc (.cells #[.int .u8 (x0 : Int), .int .u8 (x1 : Int), .int .u8 (x2 : Int)] 22) = W1 at *
  go_wp2_with fail
  refine (speaks12 W1).mono ?_
  rintro x w2 ⟨rfl, hb2⟩
  have HB2 := Lib.hid (HB1.out.trans (hb2.mono HB1.out.size))
  have hX2 := (hb2.block _ (lt_of_heap HBX.out)).trans HBX.out
  obtain ⟨p0, p1, p2⟩ := Mo.three hX2
  clear hb2 HB1 HBX hX2
  go_wp2_with fail
  refine (HPA.out w2).mono ?_
  rintro x w3 ⟨rfl, hb3⟩
  have hb03 := HB2.out.trans (hb3.mono HB2.out.size)
  have HB3 := Lib.hid hb03
  clear hb3 HB2 p0 p1 p2 HPA hb03
  go_upto_region 4 with (fail)
  have hX := heap_alloc_new w3 (.cells #[.int .i64 (lc : Int), .int .i64 (lp : Int), .int .i64 (pb : Int)] 26)
  have HB4 := Lib.hid (HB3.out.alloc HB3.out.size (.cells #[.int .i64 (lc : Int), .int .i64 (lp : Int), .int .i64 (pb : Int)] 26))
  generalize w3.alloc (.cells #[.int .i64 (lc : Int), .int .i64 (lp : Int), .int .i64 (pb : Int)] 26) = W4 at *
  generalize w3.heap.size = P at *
  have HX4 := Lib.hid hX
  clear hX HB3
  obtain ⟨p0, p1, p2⟩ := Mo.three HX4.out
  go_wp2_with fail
  refine (HCD.out fin W4 HB4.out).mono ?_
  rintro x w5 ⟨ag, cg, rfl, hb5, hg5⟩
  have HB5 := Lib.hid (HB4.out.trans (hb5.mono HB4.out.size))
  have HX5 := Lib.hid ((hb5.block _ (lt_of_heap HX4.out)).trans HX4.out)
  have HG5 := Lib.hid hg5
  have hzn : z.2.length ≤ 1000 := by have := HIV.out.num; omega
  clear hb5 hg5 HB4 HX4 p0 p1 p2
  obtain ⟨p0, p1, p2⟩ := Mo.three HX5.out
  go_wp2_with fail
  refine (HEN.out fin ag z.2 cg w5 HG5.out hzn).mono ?_
  rintro x w6 ⟨rfl, hb6⟩
  have HB6 := Lib.hid (HB5.out.trans (hb6.mono HB5.out.size))
  have HX6 := Lib.hid ((hb6.block _ (lt_of_heap HX5.out)).trans HX5.out)
  have HG6 := Lib.hid (HG5.out.below hb6)
  clear hb6 HB5 HX5 HG5 p0 p1 p2
  obtain ⟨p0, p1, p2⟩ := Mo.three HX6.out
  rw [HEC.out]
  unfold encV
  go_wp2_with fail
  refine (HCD.out false w6 HB6.out).mono ?_
  rintro x w7 ⟨ah, ch, rfl, hb7, _⟩
  have HB7 := Lib.hid (HB6.out.trans (hb7.mono HB6.out.size))
  have HX7 := Lib.hid ((hb7.block _ (lt_of_heap HX6.out)).trans HX6.out)
  have HG7 := Lib.hid (HG6.out.below hb7)
  clear hb7 HB6 HX6 HG6 p0 p1 p2 HCD
  obtain ⟨p0, p1, p2⟩ := Mo.three HX7.out
  obtain ⟨tx, htx⟩ : ∃ tx : ByteArray, tx = ⟨(encB z.1 false).toArray⟩ := ⟨_, rfl⟩
  have hts : (tx.size : Int) = ((encB z.1 false).length : Int) := by rw [htx]; rfl
  have hte : (encB z.1 false).length = z.1.s.e.turns + 5 := by show (Enc.bytes z.1.s.e).length = _; unfold Enc.bytes; rw [List.length_cons, be_length]
  have htn : z.1.s.e.turns ≤ 0 + 200 * ps.length := HIV.out.turns
  have hw : IntKind.i64.wrap ((tx.size : Int) + 1) = (tx.size : Int) + 1 := by rw [IntKind.wrap_i64]; omega
  have HU1 : Hid (∀ W (hq : IsPts W ag z.2), Calls Try.prog 13 #[.slice ag z.2.length cg, .agg #[.int .i64 (lc : Int), .int .i64 (lp : Int), .int .i64 (pb : Int)], .int .i64 (tx.size : Int)] W fun x w' => x = .returned (.tuple #[.string ⟨#[]⟩, .bool false]) ∧ Below W.heap.size W w') := Lib.hid (fun W hq => by
    have := HUP.out (tx.size : Int) ag z.2 cg W hq hzn
    rw [HEC.out] at this
    unfold uptoV at this
    dsimp only at this
    rw [if_neg (by omega)] at this
    exact this)
  have HU2 : Hid (∀ W (hq : IsPts W ag z.2), Calls Try.prog 13 #[.slice ag z.2.length cg, .agg #[.int .i64 (lc : Int), .int .i64 (lp : Int), .int .i64 (pb : Int)], .int .i64 ((tx.size : Int) + 1)] W fun x w' => x = .returned (.tuple #[.string tx, .bool true]) ∧ Below W.heap.size W w') := Lib.hid (fun W hq => by
    have := HUP.out ((tx.size : Int) + 1) ag z.2 cg W hq hzn
    rw [HEC.out] at this
    unfold uptoV at this
    dsimp only at this
    rw [if_pos (by omega), ← htx] at this
    exact this)
  rw [← htx]
  clear hts hte htn htx HEC
  go_wp2_with fail
  refine (HU1.out w7 HG7.out).mono ?_
  rintro x w8 ⟨rfl, hb8⟩
  have HB8 := Lib.hid (HB7.out.trans (hb8.mono HB7.out.size))
  have HX8 := Lib.hid ((hb8.block _ (lt_of_heap HX7.out)).trans HX7.out)
  have HG8 := Lib.hid (HG7.out.below hb8)
  clear hb8 HB7 HX7 HG7 p0 p1 p2 HU1
  obtain ⟨p0, p1, p2⟩ := Mo.three HX8.out
  go_wp2_with fail
  refine (HU2.out w8 HG8.out).mono ?_
  rintro x w9 ⟨rfl, hb9⟩
  have HB9 := Lib.hid (HB8.out.trans (hb9.mono HB8.out.size))
  have HX9 := Lib.hid ((hb9.block _ (lt_of_heap HX8.out)).trans HX8.out)
  clear hb9 HB8 HX8 HG8 p0 p1 p2 HU2 HIV hzn hw
  have hbp : P < w9.heap.size := lt_of_heap HX9.out
  have HR0 : Hid (Run w w9 (fun _ => 0)) := Lib.hid ⟨HB9.out, fun _ _ => rfl⟩
  go_wp2_with fail
  go_loopw [20, 21] (fun v i' wr => ∃ (k : Nat) (O : Paint), k ≤ ps.length ∧ i' = .int .i64 (k : Int) ∧ Run w wr O ∧ HeldP wr O 10 v (ps.take k) ∧ wr.heap[P]? = some (.cells #[.int .i64 (lc : Int), .int .i64 (lp : Int), .int .i64 (pb : Int)] 26 (0, 0)) ∧ O P = 0) (fun _ i' _ => ps.length - (intOf i').toNat)
  case atStart => exact ⟨0, fun _ => 0, by omega, rfl, HR0.out, by rw [List.take_zero]; exact HeldP.nil _ _ _, HX9.out, rfl⟩
  case round =>
    clear HR0 HX9 HB9 hbp
    obtain ⟨k, O, hk, rfl, hR, hH, hX, hOP⟩ := hrel
    by_cases hlt : k < ps.length
    · as_aux_lemma =>
      have HTK : Hid (ps.take (k + 1) = ps.take k ++ [ps[k]]) := Lib.hid (by rw [List.take_add_one, List.getElem?_eq_getElem hlt]; rfl)
      have hll : (ps.take k).length = k := by rw [List.length_take]; omega
      have HR := Lib.hid hR
      have HH := Lib.hid hH
      have HXX := Lib.hid hX
      have HOP := Lib.hid hOP
      clear hR hH hX hOP HEN HUP HAE HET
      generalize ps.take k = l at *
      have hl1 : k < len := by omega
      have hl2 : k < 40 := by omega
      have hk0 : (0 : Int) ≤ (k : Int) := by omega
      have hkn : (k : Int).toNat = k := by omega
      have hki : (k : Int) < 40 := by omega
      have hkl : (k : Int) < (len : Int) := by omega
      rcases HIP.out with he | ⟨b0, off, rfl, hc⟩
      · rw [he] at hlt; simp at hlt
      · have hb0 := World.block_lt_of_cell? _ _ (hc k hlt).1
        obtain ⟨c0, c1, c2, c3, _⟩ := (hc k hlt).below HR.out.below
        clear hc HIP HPX
        generalize ps[k] = p at *
        subst hll
        have HROW := Lib.hid HH.out.row
        obtain ⟨i0, hi, hz0, hz1, hz2⟩ := info_parts Pl.infoPk
        obtain ⟨A9, p9, rfl⟩ := HH.out.slice
        have hm1 : l.length + 1 ≤ maxLen := by unfold maxLen; omega
        have hm2 : (l.length + 1) * 32 ≤ 140737488355328 := by omega
        go_wp2_with (at_builtin; refine wpList_append_one _ rfl _ _ 28 rfl 37 i0 (.agg #[.int .i64 0, .int .i64 0, .int .i64 0, .int .u8 0]) 4 32 Try.underlying28 hi hz0 hz1 hz2 rfl (by decide) (.slice A9 l.length p9) l.length _ rfl (HROW.out.alloc _) ⟨wr.heap.size, 0, none⟩ 1 [.int .i64 p.k, .int .i64 p.d, .int .i64 p.n, .int .u8 (p.b : Int)] rfl rfl (Pl.pt_news (heap_alloc_new _ _)) (Pl.pt_one _ _ _ _) hm1 hm2 ?_; intro g9 cap9 w10 hown10 hgr10 hmv10; obtain ⟨t1, t2⟩ := HH.out.more rfl hown10 hgr10 hmv10; have HT1 := Lib.hid t1; have HT2 := Lib.hid t2; clear t1 t2 hown10 hgr10 hmv10)
        have hlt2 := lt_of_heap HXX.out
        go_roundw
        case rel => exact ⟨l.length + 1, _, by omega, by go_num, HR.out.step HT1.out (by simp), by rw [HTK.out]; exact HT2.out, (HT1.out.block hlt2 (by rw [HOP.out]; simp)).trans HXX.out, (HT1.out.ext P hlt2).trans HOP.out⟩
        case measure => simp [intOf]; omega
    · obtain rfl : k = ps.length := by omega
      rw [List.take_length] at hH
      have hcond : (ps.length : Int) < (len : Int) → ¬ (ps.length : Int) < 40 := by have := HPS.out; omega
      have hdd : ¬ ((ps.length : Int) < (len : Int)) ∨ ((ps.length : Int) < (len : Int) ∧ ¬ ((ps.length : Int) < 40)) := by
        by_cases hx : (ps.length : Int) < (len : Int)
        · exact .inr ⟨hx, hcond hx⟩
        · exact .inl hx
      obtain ⟨a, c, rfl, hpt⟩ := hH.pts HPX.out
      have HPT := Lib.hid hpt
      have HBR := Lib.hid hR.below
      have HXX := Lib.hid hX
      have hn1 : ps.length ≤ 1000 := by omega
      have HAP := Lib.hid (fun (W : World) (hb : IsPts W a ps) => Pk.apply_any hb hn1 c 16777216 (by omega))
      have HEA := Lib.hid (fun (W : World) (hb : IsPts W a ps) => HEN.out fin a ps c W hb hn1)
      have HUA := Lib.hid (fun (W : World) (hb : IsPts W a ps) => HUP.out 1073741824 a ps c W hb hn1)
      have HLT := Lib.hid (show ∀ y, encR 16777216 (xNew lc lp pb) ps = some y → ((encB y false).length : Int) < 1073741824 from fun y hy => by
        have h := HET.out y hy
        have h2 : (encB y false).length = y.s.e.turns + 5 := by show (Enc.bytes y.s.e).length = _; unfold Enc.bytes; rw [List.length_cons, be_length]
        have h3 : (xNew lc lp pb).s.e.turns = 0 := rfl
        omega)
      have HAE2 : Hid (decide ((applyL 16777216 ps [] ⟨1, 1, 1, 1⟩).2 = 0) = (encR 16777216 (xNew lc lp pb) ps).isSome) := Lib.hid HAE.out
      clear hR hH hX hOP HIP HPX hcond HPS hpl hpt HEN HUP HET HAE
      rw [show (16777216 : Int).toNat = 16777216 from rfl] at HAP
      generalize encR 16777216 (xNew lc lp pb) ps = R at *
      generalize applyL 16777216 ps [] ⟨1, 1, 1, 1⟩ = AP at *
      obtain ⟨AT, AF⟩ := AP
      generalize ps.length = K at *
      rcases hdd with hdd | ⟨hdd, hdd2⟩
      all_goals
        obtain ⟨p0, p1, p2⟩ := Mo.three HXX.out
        go_wp2_with fail
        refine (HAP.out wr HPT.out).mono ?_
        rintro x w10 ⟨rfl, hb10⟩
        have HB10 := Lib.hid (HBR.out.trans (hb10.mono HBR.out.size))
        have HX10 := Lib.hid ((hb10.block _ (lt_of_heap HXX.out)).trans HXX.out)
        have HP10 := Lib.hid (HPT.out.below hb10)
        clear hb10 p0 p1 p2 hdd
        obtain ⟨p0, p1, p2⟩ := Mo.three HX10.out
        go_wp2_with fail
        refine (HEA.out w10 HP10.out).mono ?_
        rintro x w11 ⟨rfl, hb11⟩
        have HB11 := Lib.hid (HB10.out.trans (hb11.mono HB10.out.size))
        have HX11 := Lib.hid ((hb11.block _ (lt_of_heap HX10.out)).trans HX10.out)
        have HP11 := Lib.hid (HP10.out.below hb11)
        clear hb11 p0 p1 p2 HB10 HX10 HP10
        obtain ⟨p0, p1, p2⟩ := Mo.three HX11.out
        cases R with
        | none =>
          have ha : ¬ AF = 0 := by
            have := HAE2.out
            simpa using this
          have ha1 : (AF == 0) = false := by simpa using ha
          have ha2 : ((AF : Int) == 0) = false := by simp; omega
          have ha3 : decide ((AF : Int) = 0) = false := by simp; omega
          have ha4 : ¬ (AF : Int) = 0 := by omega
          unfold encV
          go_wp2_with fail
          refine (HUA.out w11 HP11.out).mono ?_
          rintro x w12 ⟨rfl, hb12⟩
          have HB12 := Lib.hid (HB11.out.trans (hb12.mono HB11.out.size))
          clear hb12 p0 p1 p2 HB11 HX11 HP11 HUA HEA HAP
          unfold uptoV
          go_wp2_with fail
          go_ret
          exact ⟨rfl, HB12.out⟩
        | some y =>
          obtain rfl : AF = 0 := by
            have := HAE2.out
            simpa using this
          unfold encV
          go_wp2_with fail
          refine (HUA.out w11 HP11.out).mono ?_
          rintro x w12 ⟨rfl, hb12⟩
          have HB12 := Lib.hid (HB11.out.trans (hb12.mono HB11.out.size))
          clear hb12 p0 p1 p2 HB11 HX11 HP11 HUA HEA HAP
          unfold uptoV
          dsimp only
          rw [if_pos (HLT.out y rfl)]
          go_wp2_with fail
          go_ret
          exact ⟨rfl, HB12.out⟩
end Go.Proofs.Ytollngjnoccmfaa.Cd
end
section
namespace Go.Proofs.Ytollngjnoccmfaa.lzencWrites
open Go.ChangeShapes Go.WideShapes Go.ChangeAt Go.RowKit
open Go.ChangeMaps (open_string shut_string)
set_option linter.unusedVariables false

theorem own : ownKnob Try.prog.godebug = none := by kernel_rfl
set_option maxRecDepth 100000 in
theorem lifted (os : Os) (started : os.Started) (H : Type) (enc : TypeId × Value → H) :
    ReturnsInHanded {} Try.checked os 3 .any (Rows.lzencWritesSpec.pre6 enc Try.prog Try.f3 Rows.lzencWritesRow.domain false) (Rows.lzencWritesSpec.post enc Try.prog Try.f3 false true false false) := by
  refine returnsInHanded_of_change (C := Try.checked) own started (by kernel_rfl) Try.func3
    (ChangeSpec.witness6 (enc := enc) (C := Try.checked) false ⟨#[], #[.agg #[.int .u8 0, .int .u8 0, .int .u8 0], .slice none 0 0, .bool false], []⟩ 8 (by kernel_rfl) (by kernel_rfl) (by kernel_rfl) (by kernel_rfl)) ?_
  intro W base args ds gs before hval0 hW hcnd _
  have hval : ∀ (j : Nat) t v, Try.f3.params[j]? = some t → args[j]? = some v → Value.okWide Try.prog W .any base t v := hval0
  have hW' := hW
  obtain ⟨p, q, hA0, hV, rfl, hfz, hnd⟩ := hW
  have hA : DataW.TrodAll enc Try.prog W 0 (fun _ => true) true Try.f3.params.toList args.toList ds p := hA0
  rw [Try.params3] at hA hval
  obtain ⟨v0, vs0, d0, ds0, p0, q0, hargs, rfl, rfl, h0, r0⟩ := trodAll_cons hA
  obtain ⟨v1, vs1, d1, ds1, p1, q1, rfl, rfl, rfl, h1, r1⟩ := trodAll_cons r0
  obtain ⟨v2, vs2, d2, ds2, p2, q2, rfl, rfl, rfl, h2, r2⟩ := trodAll_cons r1
  obtain ⟨rfl, rfl, rfl⟩ := trodAll_nil r2
  obtain rfl : args = #[v0, v1, v2] := by cases args; simp_all
  obtain ⟨rfl, rfl⟩ := trodVars_none hV
  obtain ⟨x0, y0, z0, rfl, wx0, wy0, wz0⟩ := Mo.open_three_gen Try.underlying22 Try.underlying5 Mo.cells3b Mo.cells1b (hval 0 22 v0 rfl rfl) h0
  obtain ⟨a1, len1, cap1, rfl⟩ := okWide_slice Try.underlying23 (hval 1 23 v1 rfl rfl)
  have bx0 := wf_u8 wx0
  obtain ⟨x0, rfl⟩ := Int.eq_ofNat_of_zero_le bx0.1
  have by0 := wf_u8 wy0
  obtain ⟨y0, rfl⟩ := Int.eq_ofNat_of_zero_le by0.1
  have bz0 := wf_u8 wz0
  obtain ⟨z0, rfl⟩ := Int.eq_ofNat_of_zero_le bz0.1
  have k0 := h0
  have lt0 : ∀ x ∈ p0, x.block < W.heap.size := by obtain ⟨m, hm⟩ := k0; exact DataW.trod_lt m _ _ _ hm
  have k1 := h1
  have lt1 : ∀ x ∈ p1, x.block < W.heap.size := by obtain ⟨m, hm⟩ := k1; exact DataW.trod_lt m _ _ _ hm
  obtain ⟨ps1, e1, g1, f1, n1⟩ := Mo.open_pts11 40 h1
  obtain ⟨a2, rfl, rfl, rfl⟩ := open_bool Try.underlying4 (hval 2 4 v2 rfl rfl) h2
  clear hA0 hval0
  refine (Cd.lzw_walk x0 y0 z0 a1 len1 cap1 a2 W ps1 (by omega) (by omega) (by omega) e1 f1 n1 g1).mono fun e W' ⟨he, hg⟩ => ?_
  subst he
  exact ⟨_, rfl, _, _, _, [], _, [], hW', trodAll_mk1 (shut_bool Try.underlying4 _), (trodAll_cons_mk (Below.trod Mo.laidOut (by kernel_rfl) (of_decide_eq_true (by kernel_rfl)) k0 hg lt0) (trodAll_cons_mk (Below.trod Mo.laidOut (by kernel_rfl) (of_decide_eq_true (by kernel_rfl)) k1 hg lt1) (trodAll_cons_mk (shut_bool Try.underlying4 _) trodAll_mk0))), rfl, hg.frame _, fun h => by cases h⟩

theorem over : Rows.lzencWritesRow.holds Try.pinned (OpenSpec.ofChange Rows.lzencWritesSpec) :=
  OpenClaim.holds_of_wide 3 Try.f3 rfl rfl rfl rfl rfl rfl rfl ⟨rfl, rfl, rfl, rfl, rfl⟩ rfl rfl rfl rfl rfl (by kernel_rfl) Try.func3 (by kernel_rfl)
    (of_decide_eq_true (by kernel_rfl)) (by unfold Func.isWrapper; first | (rw [if_pos (by decide +kernel)]; kernel_rfl) | (rw [if_neg (by decide +kernel)]; exact ⟨rfl, rfl⟩))
    (fun os started H enc _ => lifted os started H enc)
end Go.Proofs.Ytollngjnoccmfaa.lzencWrites
namespace Go.Proofs.Ytollngjnoccmfaa
/-- The statement. -/
theorem lzencWrites_holds : Rows.LzencWritesSaid := lzencWrites.over
end Go.Proofs.Ytollngjnoccmfaa
end
