/-
  Package lzdec: the contracts of Decode and Packets.
  Package lzdec: the contract of Packets.
  Layers 11 and 12, plain mathematics: what is encoded of packets that tell a text is decoded again.
  Layers 11 and 12: packets that tell a text are encoded, and their bytes decoded.
-/
import Derived.Test.YthdjnbhdgacmgaaLzMid
section
set_option linter.unusedVariables false
set_option linter.unusedSimpArgs false
namespace Go.Proofs.Ythdjnbhdgacmgaa.Lz
open Go.RowKit
open Rc Mo
open Pk (Rp Pt four IsPts)
/-- Params that may not be, or a limit below 0. -/
theorem decode_bad (lc lp pb : Int) (h1 : -9223372036854775808 ≤ lc ∧ lc ≤ 9223372036854775807) (h2 : -9223372036854775808 ≤ lp ∧ lp ≤ 9223372036854775807) (n most : Int) (h : goodB lc lp pb = false ∨ most < 0) (s : ByteArray) (fv : Value) (w : World) :
    Calls Try.prog 23 #[.string s, .agg #[.int .i64 lc, .int .i64 lp, .int .i64 pb], .int .i64 n, .int .i64 most, fv] w fun x w' => x = .returned (.tuple #[zeroDv, .int .i64 1]) ∧ Below w.heap.size w w' := by
  have HG := Lib.hid (fun W => good_any lc lp pb h1 h2 W)
  have hb1 : Below w.heap.size w ((w.alloc (.cells #[.int .i64 lc, .int .i64 lp, .int .i64 pb] 28)).alloc (.cells #[.pointer none, .nilIface, .int .i64 0] 61)) := ((Below.refl _ _).alloc (Nat.le_refl _) _).alloc (by simp) _
  have hX := heap_alloc_new w (.cells #[.int .i64 lc, .int .i64 lp, .int .i64 pb] 28)
  have hX2 := (Below.heap_alloc (w.alloc (.cells #[.int .i64 lc, .int .i64 lp, .int .i64 pb] 28)) (.cells #[.pointer none, .nilIface, .int .i64 0] 61) _ (lt_of_heap hX)).trans hX
  have hz := heap_alloc_new (w.alloc (.cells #[.int .i64 lc, .int .i64 lp, .int .i64 pb] 28)) (.cells #[.pointer none, .nilIface, .int .i64 0] 61)
  rw [World.size_alloc] at hz
  have HB1 := Lib.hid hb1
  clear hb1 hX h1 h2
  go_enter Try.func23, Try.ntmps23
  go_upto_region 1 with (fail)
  generalize (w.alloc (.cells #[.int .i64 lc, .int .i64 lp, .int .i64 pb] 28)).alloc (.cells #[.pointer none, .nilIface, .int .i64 0] 61) = W0 at *
  have HPP : Hid (∃ P, P = w.heap.size) := Lib.hid ⟨_, rfl⟩
  obtain ⟨P, hP⟩ := HPP.out
  rw [← hP] at hz hX2 ⊢
  have hPw : w.heap.size ≤ P + 1 := by omega
  clear hP HPP
  obtain ⟨p0, p1, p2⟩ := three_cells hX2
  have hPl := lt_of_heap hz
  have HZ := Lib.hid hz
  clear hX2 hz
  go_wp2_with fail
  refine (HG.out W0).mono ?_
  rintro x W1 ⟨rfl, hb⟩
  have hz1 := (hb.block (P + 1) hPl).trans HZ.out
  have HZ1 := Lib.hid hz1
  have HB2 := Lib.hid (HB1.out.trans (hb.mono HB1.out.size))
  obtain ⟨z0, z1, z2, f0, f1, f2⟩ := six_cells hz1
  clear hb HB1 HG hz1 HZ p0 p1 p2
  have HEND : Hid (∀ W, W = ((W1.setCell ⟨P + 1, 0, none⟩ (.pointer none)).setCell ⟨P + 1, 1, none⟩ .nilIface).setCell ⟨P + 1, 2, none⟩ (.int .i64 0) → W.cell? ⟨P + 1, 0, none⟩ = some (.pointer none) ∧ W.cell? ⟨P + 1, 1, none⟩ = some .nilIface ∧ W.cell? ⟨P + 1, 2, none⟩ = some (.int .i64 0) ∧ Below w.heap.size w W) := Lib.hid (fun W hW => by
    have b0 := heap_setCell_same W1 _ 0 _ _ (.pointer none) HZ1.out
    have b1 := heap_setCell_same _ _ 1 _ _ .nilIface b0
    have b2 := heap_setCell_same _ _ 2 _ _ (.int .i64 0) b1
    simp at b2
    subst hW
    obtain ⟨r0, r1, r2⟩ := three_cells b2
    exact ⟨r0, r1, r2, Pk.bel_set _ hPw (Pk.bel_set _ hPw (Pk.bel_set _ hPw HB2.out))⟩)
  clear HZ1 HB2
  rcases h with h | h
  · rw [h]
    go_wp2_with fail
    obtain ⟨r0, r1, r2, hb⟩ := HEND.out _ rfl
    clear HEND z0 z1 z2 f0 f1 f2
    refine bodyPost_ret (v := .tuple #[.agg #[.pointer none, .nilIface, .int .i64 0], .int .i64 1]) ?_ rfl ?_
    · simp [results, Try.results23, go_sem, r0, r1, r2]
    · exact ⟨rfl, hb⟩
  · cases hg : goodB lc lp pb with
    | false =>
      go_wp2_with fail
      obtain ⟨r0, r1, r2, hb⟩ := HEND.out _ rfl
      clear HEND z0 z1 z2 f0 f1 f2
      refine bodyPost_ret (v := .tuple #[.agg #[.pointer none, .nilIface, .int .i64 0], .int .i64 1]) ?_ rfl ?_
      · simp [results, Try.results23, go_sem, r0, r1, r2]
      · exact ⟨rfl, hb⟩
    | true =>
      have hd : decide (most < 0) = true := decide_eq_true h
      go_wp2_with fail
      obtain ⟨r0, r1, r2, hb⟩ := HEND.out _ rfl
      clear HEND z0 z1 z2 f0 f1 f2
      refine bodyPost_ret (v := .tuple #[.agg #[.pointer none, .nilIface, .int .i64 0], .int .i64 1]) ?_ rfl ?_
      · simp [results, Try.results23, go_sem, r0, r1, r2]
      · exact ⟨rfl, hb⟩
/-- More bytes than there may be. -/
theorem decode_long (lc lp pb : Nat) (hl : lc + lp ≤ 4) (hpb : pb ≤ 4) (n most : Int) (h0 : 0 ≤ most) (hn : most < n) (s : ByteArray) (fv : Value) (w : World) :
    Calls Try.prog 23 #[.string s, .agg #[.int .i64 (lc : Int), .int .i64 (lp : Int), .int .i64 (pb : Int)], .int .i64 n, .int .i64 most, fv] w fun x w' => x = .returned (.tuple #[zeroDv, .int .i64 4]) ∧ Below w.heap.size w w' := by
  have hgood : goodB (lc : Int) (lp : Int) (pb : Int) = true := by unfold goodB; simp; omega
  have HG := Lib.hid (fun W => good_any (lc : Int) (lp : Int) (pb : Int) ⟨by omega, by omega⟩ ⟨by omega, by omega⟩ W)
  rw [hgood] at HG
  have hb1 : Below w.heap.size w ((w.alloc (.cells #[.int .i64 (lc : Int), .int .i64 (lp : Int), .int .i64 (pb : Int)] 28)).alloc (.cells #[.pointer none, .nilIface, .int .i64 0] 61)) := ((Below.refl _ _).alloc (Nat.le_refl _) _).alloc (by simp) _
  have hX := heap_alloc_new w (.cells #[.int .i64 (lc : Int), .int .i64 (lp : Int), .int .i64 (pb : Int)] 28)
  have hX2 := (Below.heap_alloc (w.alloc (.cells #[.int .i64 (lc : Int), .int .i64 (lp : Int), .int .i64 (pb : Int)] 28)) (.cells #[.pointer none, .nilIface, .int .i64 0] 61) _ (lt_of_heap hX)).trans hX
  have hz := heap_alloc_new (w.alloc (.cells #[.int .i64 (lc : Int), .int .i64 (lp : Int), .int .i64 (pb : Int)] 28)) (.cells #[.pointer none, .nilIface, .int .i64 0] 61)
  rw [World.size_alloc] at hz
  have HB1 := Lib.hid hb1
  have hd : decide (most < 0) = false := by rw [decide_eq_false_iff_not]; omega
  have hd2 : decide (most < n) = true := decide_eq_true hn
  clear hb1 hX hgood hl hpb h0 hn
  go_enter Try.func23, Try.ntmps23
  go_upto_region 1 with (fail)
  generalize (w.alloc (.cells #[.int .i64 (lc : Int), .int .i64 (lp : Int), .int .i64 (pb : Int)] 28)).alloc (.cells #[.pointer none, .nilIface, .int .i64 0] 61) = W0 at *
  have HPP : Hid (∃ P, P = w.heap.size) := Lib.hid ⟨_, rfl⟩
  obtain ⟨P, hP⟩ := HPP.out
  rw [← hP] at hz hX2 ⊢
  have hPw : w.heap.size ≤ P + 1 := by omega
  clear hP HPP
  obtain ⟨p0, p1, p2⟩ := three_cells hX2
  have hPl := lt_of_heap hz
  have HZ := Lib.hid hz
  clear hX2 hz
  go_wp2_with fail
  refine (HG.out W0).mono ?_
  rintro x W1 ⟨rfl, hb⟩
  have hz1 := (hb.block (P + 1) hPl).trans HZ.out
  have HZ1 := Lib.hid hz1
  have HB2 := Lib.hid (HB1.out.trans (hb.mono HB1.out.size))
  obtain ⟨z0, z1, z2, f0, f1, f2⟩ := six_cells hz1
  clear hb HB1 HG hz1 HZ p0 p1 p2
  go_wp2_with fail
  have b0 := heap_setCell_same W1 _ 0 _ _ (.pointer none) HZ1.out
  have b1 := heap_setCell_same _ _ 1 _ _ .nilIface b0
  have b2 := heap_setCell_same _ _ 2 _ _ (.int .i64 0) b1
  simp at b2
  obtain ⟨r0, r1, r2⟩ := three_cells b2
  have hb : Below w.heap.size w _ := Pk.bel_set (.int .i64 0) (p := ⟨P + 1, 2, none⟩) hPw (Pk.bel_set .nilIface (p := ⟨P + 1, 1, none⟩) hPw (Pk.bel_set (.pointer none) (p := ⟨P + 1, 0, none⟩) hPw HB2.out))
  clear b0 b1 b2 z0 z1 z2 f0 f1 f2
  refine bodyPost_ret (v := .tuple #[.agg #[.pointer none, .nilIface, .int .i64 0], .int .i64 4]) ?_ rfl ?_
  · simp [results, Try.results23, go_sem, r0, r1, r2]
  · exact ⟨rfl, hb⟩
/-- What Decode hands back. -/
noncomputable def decV (R : Option (Ms × List Pt)) : Value := match R with
  | none => .tuple #[.string ⟨#[]⟩, .int .i64 6]
  | some y => .tuple #[.string ⟨y.1.l.toArray⟩, .int .i64 0]
set_option maxRecDepth 100000 in
set_option maxHeartbeats 4000000 in
theorem dec_any (lc lp pb : Nat) (hl : lc + lp ≤ 4) (hpb : pb ≤ 4) (s : ByteArray) (hs : s.size ≤ 1000000000000) (n most : Int) (h1 : 0 ≤ most) (h2 : most ≤ 1000000000) (h3 : n ≤ most) (h4 : -9223372036854775808 ≤ n) (w : World) :
    Calls Try.prog 10 #[.string s, .agg #[.int .i64 (lc : Int), .int .i64 (lp : Int), .int .i64 (pb : Int)], .int .i64 n, .int .i64 most] w fun x w' => x = .returned (decV (readR lc lp pb s n most)) ∧ Below w.heap.size w w' := by
  have hb1 : Below w.heap.size w (w.alloc (.cells #[.int .i64 (lc : Int), .int .i64 (lp : Int), .int .i64 (pb : Int)] 28)) := (Below.refl _ _).alloc (Nat.le_refl _) _
  obtain ⟨p0, p1, p2⟩ := three_cells (heap_alloc_new w (.cells #[.int .i64 (lc : Int), .int .i64 (lp : Int), .int .i64 (pb : Int)] 28))
  have HR1 := Lib.hid (Run.mk hb1 (fun _ _ => rfl) : Run w (w.alloc (.cells #[.int .i64 (lc : Int), .int .i64 (lp : Int), .int .i64 (pb : Int)] 28)) (fun _ => 0))
  have HDE := Lib.hid (fun W O (hr : Run w W O) => decodeN_any (L := 0) hr trivial lc lp pb hl hpb s hs n most h1 h2 h3 h4)
  obtain ⟨R, hR⟩ : ∃ R, R = readR lc lp pb s n most := ⟨_, rfl⟩
  rw [← hR] at HDE ⊢
  clear hR hb1 hl hpb hs h1 h2 h3 h4
  go_enter Try.func10, Try.ntmps10
  go_upto_region 1 with (fail)
  generalize w.alloc (.cells #[.int .i64 (lc : Int), .int .i64 (lp : Int), .int .i64 (pb : Int)] 28) = W1 at *
  go_wp2_with fail
  refine (HDE.out _ _ HR1.out).mono ?_
  rintro x w2 ⟨O2, hr2, h⟩
  have HR2 := Lib.hid hr2
  clear hr2 HDE HR1 p0 p1 p2
  rcases h with ⟨rfl, rfl⟩ | ⟨i, D, m, d, acc, rfl, rfl, hL, _, _⟩
  · have HB3 : Hid (Below w.heap.size w (w2.alloc (.cells #[.pointer none, .nilIface, .int .i64 0] 61))) := Lib.hid (Pk.bel_alloc _ HR2.out.below)
    unfold zeroDv
    go_wp2_with fail
    go_ret2
    exact ⟨rfl, HB3.out⟩
  · have hb3 : Below w2.heap.size w2 (w2.alloc (.cells #[.pointer (some ⟨i.mo, 0, none⟩), .iface 108 (.agg #[.pointer (some ⟨D, 0, none⟩)]), .int .i64 n] 61)) := (Below.refl _ _).alloc (Nat.le_refl _) _
    have HL3 := Lib.hid (hL.news hb3)
    obtain ⟨q0, q1, q2⟩ := three_cells (heap_alloc_new w2 (.cells #[.pointer (some ⟨i.mo, 0, none⟩), .iface 108 (.agg #[.pointer (some ⟨D, 0, none⟩)]), .int .i64 n] 61))
    clear hL hb3
    unfold dv
    go_upto_region 2 with (fail)
    generalize w2.alloc (.cells #[.pointer (some ⟨i.mo, 0, none⟩), .iface 108 (.agg #[.pointer (some ⟨D, 0, none⟩)]), .int .i64 n] 61) = w3 at *
    have HTX := Lib.hid (model_text HL3.out.one)
    have HB3 := Lib.hid HL3.out.run.below
    go_wp2_with fail
    refine HTX.out.mono ?_
    rintro x w4 ⟨rfl, rfl⟩
    clear HTX HL3 HR2 q0 q1 q2
    go_wp2_with fail
    go_ret2
    exact ⟨rfl, HB3.out⟩
end Go.Proofs.Ythdjnbhdgacmgaa.Lz
end
section
set_option linter.unusedVariables false
set_option linter.unusedSimpArgs false
namespace Go.Proofs.Ythdjnbhdgacmgaa.Lz
open Go.RowKit
open Rc Mo
open Pk (Rp Pt four IsPts)
/-- What Packets leaves. -/
def PkTo (w : World) (R : Option (Ms × List Pt)) (x : Ending) (w' : World) : Prop :=
  (x = .returned (.tuple #[.slice none 0 0, .int .i64 6]) ∧ R = none ∧ Below w.heap.size w w') ∨ ∃ v m acc, x = .returned (.tuple #[v, .int .i64 0]) ∧ R = some (m, acc) ∧ Below w.heap.size w w' ∧ w'.ownsRow 0 45 4 v acc.length (Pl.flatP acc) ∧ ∀ q ∈ acc, q.b < 256
set_option maxRecDepth 100000 in
set_option maxHeartbeats 4000000 in
theorem packets_any (lc lp pb : Nat) (hl : lc + lp ≤ 4) (hpb : pb ≤ 4) (s : ByteArray) (hs : s.size ≤ 1000000000000) (n most : Int) (h1 : 0 ≤ most) (h2 : most ≤ 1000000000) (h3 : n ≤ most) (h4 : -9223372036854775808 ≤ n) (w : World) :
    Calls Try.prog 9 #[.string s, .agg #[.int .i64 (lc : Int), .int .i64 (lp : Int), .int .i64 (pb : Int)], .int .i64 n, .int .i64 most] w (PkTo w (readR lc lp pb s n most)) := by
  have hb1 : Below w.heap.size w ((w.alloc (.cells #[.int .i64 (lc : Int), .int .i64 (lp : Int), .int .i64 (pb : Int)] 28)).alloc (.cells #[.slice none 0 0] 30)) := ((Below.refl _ _).alloc (Nat.le_refl _) _).alloc (by simp) _
  have hX := heap_alloc_new w (.cells #[.int .i64 (lc : Int), .int .i64 (lp : Int), .int .i64 (pb : Int)] 28)
  have hX2 := (Below.heap_alloc (w.alloc (.cells #[.int .i64 (lc : Int), .int .i64 (lp : Int), .int .i64 (pb : Int)] 28)) (.cells #[.slice none 0 0] 30) _ (lt_of_heap hX)).trans hX
  have hz := heap_alloc_new (w.alloc (.cells #[.int .i64 (lc : Int), .int .i64 (lp : Int), .int .i64 (pb : Int)] 28)) (.cells #[.slice none 0 0] 30)
  rw [World.size_alloc] at hz
  obtain ⟨p0, p1, p2⟩ := three_cells hX2
  have HR1 := Lib.hid (show Run w _ (fun k => if k = w.heap.size + 1 then 10 else 0) from ⟨hb1, fun k hk => by simp; omega⟩)
  have HT1 : Hid (TellAt _ (fun k => if k = w.heap.size + 1 then 10 else 0) (w.heap.size + 1) []) := Lib.hid ⟨.slice none 0 0, ⟨hz, by simp⟩, HeldP.nil _ _ _⟩
  have HDE := Lib.hid (fun W O L (hr : Run w W O) (ht : TellAt W O L []) => decodeP_any (L := L) hr ht lc lp pb hl hpb s hs n most h1 h2 h3 h4)
  have hmf : ∀ (fn : Fn) (first cap : Array Value) (W : World), (Instr.makeFunc fn first cap).run Try.prog W = .ok (.func fn first cap) W := fun _ _ _ _ => rfl
  obtain ⟨R, hR⟩ : ∃ R, R = readR lc lp pb s n most := ⟨_, rfl⟩
  rw [← hR] at HDE ⊢
  clear hR hb1 hl hpb hs h1 h2 h3 h4 hX hX2 hz
  go_enter Try.func9, Try.ntmps9
  go_upto_region 2 with (fail)
  generalize (w.alloc (.cells #[.int .i64 (lc : Int), .int .i64 (lp : Int), .int .i64 (pb : Int)] 28)).alloc (.cells #[.slice none 0 0] 30) = W1 at *
  generalize (fun k => if k = w.heap.size + 1 then 10 else 0) = O1 at *
  go_wp2_with fail
  refine (HDE.out _ _ _ HR1.out HT1.out).mono ?_
  rintro x w2 ⟨O2, hr2, h⟩
  have HR2 := Lib.hid hr2
  clear hr2 HDE HR1 HT1 p0 p1 p2
  rcases h with ⟨rfl, rfl⟩ | ⟨i, D, m, d, acc, rfl, rfl, hL, hT, hBY⟩
  · have HB3 : Hid (Below w.heap.size w (w2.alloc (.cells #[.pointer none, .nilIface, .int .i64 0] 61))) := Lib.hid (Pk.bel_alloc _ HR2.out.below)
    unfold zeroDv
    go_wp2_with fail
    go_ret2
    exact .inl ⟨rfl, rfl, HB3.out⟩
  · have hb3 : Below w2.heap.size w2 (w2.alloc (.cells #[.pointer (some ⟨i.mo, 0, none⟩), .iface 108 (.agg #[.pointer (some ⟨D, 0, none⟩)]), .int .i64 n] 61)) := (Below.refl _ _).alloc (Nat.le_refl _) _
    have HB3 := Lib.hid (Pk.bel_new hb3 HR2.out.below)
    obtain ⟨v, hv1, hv2⟩ := (hT.idle (Step.of_below_same hb3 O2)).ex
    have c0 := hv1.cell 0
    simp at c0
    have HV2 := Lib.hid hv2
    clear hL hT hb3 hv1 hv2 HR2
    unfold dv
    go_upto_region 3 with (fail)
    generalize w2.alloc (.cells #[.pointer (some ⟨i.mo, 0, none⟩), .iface 108 (.agg #[.pointer (some ⟨D, 0, none⟩)]), .int .i64 n] 61) = w3 at *
    go_wp2_with fail
    go_ret2
    exact .inr ⟨v, m, acc, rfl, rfl, HB3.out, HV2.out.row, hBY⟩
set_option maxRecDepth 100000 in
set_option maxHeartbeats 2000000 in
theorem dec_err (code : Int) (hc : code ≠ 0) (lc lp pb n most : Int) (s : ByteArray) (h : ∀ (W : World) (fv : Value), Calls Try.prog 23 #[.string s, .agg #[.int .i64 lc, .int .i64 lp, .int .i64 pb], .int .i64 n, .int .i64 most, fv] W fun x w' => x = .returned (.tuple #[zeroDv, .int .i64 code]) ∧ Below W.heap.size W w') (w : World) :
    Calls Try.prog 10 #[.string s, .agg #[.int .i64 lc, .int .i64 lp, .int .i64 pb], .int .i64 n, .int .i64 most] w fun x w' => x = .returned (.tuple #[.string ⟨#[]⟩, .int .i64 code]) ∧ Below w.heap.size w w' := by
  have hb1 : Below w.heap.size w (w.alloc (.cells #[.int .i64 lc, .int .i64 lp, .int .i64 pb] 28)) := (Below.refl _ _).alloc (Nat.le_refl _) _
  obtain ⟨p0, p1, p2⟩ := three_cells (heap_alloc_new w (.cells #[.int .i64 lc, .int .i64 lp, .int .i64 pb] 28))
  have HB1 := Lib.hid hb1
  have HDE := Lib.hid h
  have hcn : (code != 0) = true := by simpa using hc
  clear hb1 h hc
  go_enter Try.func10, Try.ntmps10
  go_upto_region 1 with (fail)
  generalize w.alloc (.cells #[.int .i64 lc, .int .i64 lp, .int .i64 pb] 28) = W1 at *
  go_wp2_with fail
  refine (HDE.out _ _).mono ?_
  rintro x w2 ⟨rfl, hb2⟩
  have HB3 : Hid (Below w.heap.size w (w2.alloc (.cells #[.pointer none, .nilIface, .int .i64 0] 61))) := Lib.hid (Pk.bel_alloc _ (HB1.out.trans (hb2.mono HB1.out.size)))
  clear hb2 HDE HB1 p0 p1 p2
  unfold zeroDv
  go_wp2_with fail
  go_ret2
  exact ⟨rfl, HB3.out⟩
set_option maxRecDepth 100000 in
set_option maxHeartbeats 2000000 in
theorem pk_err (code : Int) (hc : code ≠ 0) (lc lp pb n most : Int) (s : ByteArray) (h : ∀ (W : World) (fv : Value), Calls Try.prog 23 #[.string s, .agg #[.int .i64 lc, .int .i64 lp, .int .i64 pb], .int .i64 n, .int .i64 most, fv] W fun x w' => x = .returned (.tuple #[zeroDv, .int .i64 code]) ∧ Below W.heap.size W w') (w : World) :
    Calls Try.prog 9 #[.string s, .agg #[.int .i64 lc, .int .i64 lp, .int .i64 pb], .int .i64 n, .int .i64 most] w fun x w' => x = .returned (.tuple #[.slice none 0 0, .int .i64 code]) ∧ Below w.heap.size w w' := by
  have hb1 : Below w.heap.size w ((w.alloc (.cells #[.int .i64 lc, .int .i64 lp, .int .i64 pb] 28)).alloc (.cells #[.slice none 0 0] 30)) := ((Below.refl _ _).alloc (Nat.le_refl _) _).alloc (by simp) _
  have hX := heap_alloc_new w (.cells #[.int .i64 lc, .int .i64 lp, .int .i64 pb] 28)
  have hX2 := (Below.heap_alloc (w.alloc (.cells #[.int .i64 lc, .int .i64 lp, .int .i64 pb] 28)) (.cells #[.slice none 0 0] 30) _ (lt_of_heap hX)).trans hX
  obtain ⟨p0, p1, p2⟩ := three_cells hX2
  have HB1 := Lib.hid hb1
  have HDE := Lib.hid h
  have hcn : (code != 0) = true := by simpa using hc
  have hmf : ∀ (fn : Fn) (first cap : Array Value) (W : World), (Instr.makeFunc fn first cap).run Try.prog W = .ok (.func fn first cap) W := fun _ _ _ _ => rfl
  clear hb1 h hc hX hX2
  go_enter Try.func9, Try.ntmps9
  go_upto_region 2 with (fail)
  generalize (w.alloc (.cells #[.int .i64 lc, .int .i64 lp, .int .i64 pb] 28)).alloc (.cells #[.slice none 0 0] 30) = W1 at *
  go_wp2_with fail
  refine (HDE.out _ _).mono ?_
  rintro x w2 ⟨rfl, hb2⟩
  have HB3 : Hid (Below w.heap.size w (w2.alloc (.cells #[.pointer none, .nilIface, .int .i64 0] 61))) := Lib.hid (Pk.bel_alloc _ (HB1.out.trans (hb2.mono HB1.out.size)))
  clear hb2 HDE HB1 p0 p1 p2
  unfold zeroDv
  go_wp2_with fail
  go_ret2
  exact ⟨rfl, HB3.out⟩
end Go.Proofs.Ythdjnbhdgacmgaa.Lz
end
section
set_option linter.unusedVariables false
namespace Go.Proofs.Ythdjnbhdgacmgaa.Lz
open Go.RowKit
open Rc Mo
open Pk (Rp Pt applyL applyL_more applyL_none applyL_long fit_some)
theorem fitM_mono {n M : Int} {m : Ms} {p : Pt} {y : Int × Int × Rp} (h : fitM n m p = some y) (hM : n ≤ M) : fitM M m p = some y := by
  obtain ⟨h1, h2⟩ := fitM_some h
  unfold fitM
  rw [h1]
  simp only
  rw [if_pos (by omega)]
theorem runs_mono {n M : Int} (hM : n ≤ M) : ∀ {l : List Pt} {x : Pr}, FitAll n x l → FitAll M x l ∧ runs M x l = runs n x l
  | [], x, _ => ⟨trivial, rfl⟩
  | p :: l, x, h => by
    obtain ⟨⟨hb, y, hy⟩, h2⟩ := h
    have hyM := fitM_mono hy hM
    have e : x.put M p = x.put n p := by rw [Pr.put_yes hy, Pr.put_yes hyM]
    obtain ⟨i1, i2⟩ := runs_mono hM h2
    refine ⟨⟨⟨hb, y, hyM⟩, by rw [e]; exact i1⟩, ?_⟩
    show runs M (x.put M p) l = runs n (x.put n p) l
    rw [e]
    exact i2
/-- Packets that tell a text fit, one after another. -/
theorem fitAll_apply {N : Nat} {t : List UInt8} : ∀ (l : List Pt) (x : Pr), x.m.r.pos → (∀ p ∈ l, p.b < 256) → applyL N l x.m.l x.m.r = (t, 0) → FitAll (N : Int) x l ∧ (runs (N : Int) x l).m.l = t
  | [], x, _, _, h => by
    simp only [applyL, Prod.mk.injEq, and_true] at h
    exact ⟨trivial, h⟩
  | p :: l, x, hr, hb, h => by
    cases hf : p.fit (x.m.l.length : Int) x.m.r with
    | none => rw [applyL_none hf] at h; cases h
    | some y =>
      obtain ⟨d, n, s⟩ := y
      cases ht : p.tell N x.m.l d n with
      | none => rw [applyL_long hf ht] at h; cases h
      | some l' =>
        rw [applyL_more hf ht] at h
        obtain ⟨hs, hk⟩ := fit_some hf hr
        have key : n ≤ (N : Int) - (x.m.l.length : Int) ∧ (x.m.tell p (d, n, s)).l = l' := by
          unfold Pk.Pt.tell at ht
          rcases hk with ⟨hk, rfl⟩ | ⟨hk, _, _, h3, _⟩
          · rw [if_pos hk] at ht
            split at ht
            · refine ⟨by omega, ?_⟩
              simp only [Ms.tell, if_pos hk]
              exact Option.some.inj ht
            · cases ht
          · rw [if_neg hk] at ht
            split at ht
            · refine ⟨by omega, ?_⟩
              simp only [Ms.tell, if_neg hk]
              exact Option.some.inj ht
            · cases ht
        have hy : fitM (N : Int) x.m p = some (d, n, s) := by
          unfold fitM
          rw [hf]
          simp only
          rw [if_pos key.1]
        have hput := Pr.put_yes (most := (N : Int)) hy
        have hpl : (x.put (N : Int) p).m.l = l' := by rw [hput]; exact key.2
        have hpr : (x.put (N : Int) p).m.r = s := by rw [hput]; rfl
        obtain ⟨i1, i2⟩ := fitAll_apply l (x.put (N : Int) p) (by rw [hpr]; exact hs) (fun q hq => hb q (List.mem_cons_of_mem _ hq)) (by rw [hpl, hpr]; exact h)
        exact ⟨⟨⟨hb p List.mem_cons_self, _, hy⟩, i1⟩, i2⟩
theorem put_pos {most : Int} {x : Pr} {p : Pt} {y : Int × Int × Rp} (hr : x.m.r.pos) (hy : fitM most x.m p = some y) : (x.put most p).m.r.pos ∧ x.m.l.length < (x.put most p).m.l.length := by
  obtain ⟨h1, _, h3⟩ := tell_grows hy hr
  rw [Pr.put_yes hy]
  exact ⟨h3, by simp only; omega⟩
theorem runs_len {most : Int} : ∀ {l : List Pt} {x : Pr}, x.m.r.pos → FitAll most x l → x.m.l.length + l.length ≤ (runs most x l).m.l.length ∧ (runs most x l).m.r.pos
  | [], x, h, _ => ⟨Nat.le_refl _, h⟩
  | p :: l, x, h, hl => by
    obtain ⟨⟨_, y, hy⟩, h2⟩ := hl
    obtain ⟨h3, h4⟩ := put_pos h hy
    obtain ⟨i1, i2⟩ := runs_len (l := l) h3 h2
    refine ⟨?_, i2⟩
    have e : runs most x (p :: l) = runs most (x.put most p) l := rfl
    rw [e, List.length_cons]
    omega
theorem runs_parts {most : Int} : ∀ {l : List Pt} {x : Pr} (k : Nat), FitAll most x l → FitAll most x (l.take k) ∧ FitAll most (runs most x (l.take k)) (l.drop k) ∧ runs most x l = runs most (runs most x (l.take k)) (l.drop k)
  | l, x, 0, h => ⟨trivial, h, rfl⟩
  | [], x, k + 1, _ => ⟨trivial, trivial, rfl⟩
  | p :: l, x, k + 1, h => by
    obtain ⟨i1, i2, i3⟩ := runs_parts (l := l) (x := x.put most p) k h.2
    exact ⟨⟨h.1, i1⟩, i2, i3⟩
/-- What was put, without the end, is got. -/
theorem read_run {N : Nat} {lc lp pb : Nat} {l : List Pt} {X : Pr} (hl : FitAll (N : Int) (xNew lc lp pb) l) (hX : X = runs (N : Int) (xNew lc lp pb) l) (hN : X.m.l.length = N) (hN2 : N < 4611686018427387904) :
    readR lc lp pb ⟨(encB X false).toArray⟩ (N : Int) (N : Int) = some (X.m, l) := by
  have h0 : (xNew lc lp pb).s.Ok := start_ok lc lp pb
  have hpos : (xNew lc lp pb).m.r.pos := by unfold xNew mNew Pk.Rp.pos; simp
  have hx : (xNew lc lp pb).s = ⟨Enc.start, qNew⟩ := rfl
  have hmo : mostOf (N : Int) (N : Int) = (N : Int) := by unfold mostOf; split <;> rfl
  have hok := runs_ok (most := (N : Int)) (l := l) h0
  rw [← hX] at hok
  have hs := ahead_self (e := X.s.e) (by have := hok.fine.1; omega)
  have ha0 := ahead_runs (most := (N : Int)) (l := l) (x := xNew lc lp pb) 0 h0 (by rw [← hX]; exact hs)
  have hrd : encB X false = 0 :: be (X.s.e.turns + 4) X.s.e.low ++ [] := by simp [encB, Enc.bytes]
  have ha1 : Ahead Enc.start X.s.e.low X.s.e.turns := by
    have := ha0
    simp only [List.take_zero] at this
    exact this
  have hst := follows_start (more := []) ha1
  rw [← hrd] at hst
  have hf0 : Fol ⟨Dec.read (encB X false), qNew⟩ (xNew lc lp pb).s X.s.e.low X.s.e.turns [] := ⟨hst, rfl⟩
  have hr := fol_runs h0 hl (by rw [← hX]; exact hs) hf0
  have hlen := (runs_len hpos hl).1
  rw [← hX, hN] at hlen
  have hll : l.length ≤ N := by have : (xNew lc lp pb).m.l.length = 0 := rfl; omega
  have key : ∀ (j k f : Nat), j + k = l.length → j < f → decR (N : Int) (N : Int) f (runs (N : Int) (xNew lc lp pb) (l.take k)).m (dsN (N : Int) (xNew lc lp pb) l ⟨Dec.read (encB X false), qNew⟩ k) (l.take k) = some (X.m, l) := by
    intro j
    induction j with
    | zero =>
      intro k f hk hf
      obtain ⟨f', rfl⟩ : ∃ f', f = f' + 1 := ⟨f - 1, by omega⟩
      have hkl : k = l.length := by omega
      have hfol := hr k (by omega)
      rw [hkl, List.take_length, ← hX] at hfol ⊢
      obtain ⟨r1, r2, r3⟩ := follows_end hfol.f
      have hlk : lacksB (N : Int) X.m = false := by unfold lacksB; rw [hN]; simp
      have hov : over (dsN (N : Int) (xNew lc lp pb) l ⟨Dec.read (encB X false), qNew⟩ l.length) = true := by unfold over; simp [Dec.done, r1, r2, r3]
      rw [decR_stop (by rw [hlk]; simp), hov, if_pos rfl]
    | succ j ih =>
      intro k f hk hf
      obtain ⟨f', rfl⟩ : ∃ f', f = f' + 1 := ⟨f - 1, by omega⟩
      have hkl : k < l.length := by omega
      have hlk : l[k]? = some l[k] := List.getElem?_eq_getElem hkl
      obtain ⟨hb, y, hy⟩ := fitAll_at hl hlk
      have ha2 := ahead_runs (most := (N : Int)) (l := l) (x := xNew lc lp pb) (k + 1) h0 (by rw [← hX]; exact hs)
      rw [runs_take hlk] at ha2
      have hfol := hr k (by omega)
      obtain ⟨g1, _⟩ := fol_put (runs_ok h0) hb hy ha2 hfol
      rw [← runs_take hlk] at g1
      obtain ⟨p1, p2, p3⟩ := runs_parts k hl
      have hp2 := (runs_len (runs_len hpos p1).2 p2).1
      rw [← p3, ← hX, hN, List.length_drop] at hp2
      have hlack : lacksB (N : Int) (runs (N : Int) (xNew lc lp pb) (l.take k)).m = true := by unfold lacksB; simp; omega
      rw [decR_more ⟨hlack, hfol.f.1⟩ g1]
      have htk : l.take k ++ [l[k]] = l.take (k + 1) := by rw [List.take_succ_eq_append_getElem hkl]
      rw [htk]
      exact ih (k + 1) f' (by omega) (by omega)
  unfold readR
  rw [hmo]
  have := key l.length 0 ((N : Int).toNat + 1) (by omega) (by simp; omega)
  rw [List.take_zero] at this
  simpa [dsN, runs, xNew] using this
/-- Packets that tell a text are told by their bytes. -/
theorem read_all {N : Nat} (lc lp pb : Nat) {l : List Pt} {t : List UInt8} (hb : ∀ p ∈ l, p.b < 256) (h : applyL N l [] ⟨1, 1, 1, 1⟩ = (t, 0)) (hN : t.length = N) (hN2 : N ≤ 16777216) :
    ∃ X, encR 16777216 (xNew lc lp pb) l = some X ∧ readR lc lp pb ⟨(encB X false).toArray⟩ (N : Int) (N : Int) = some (X.m, l) ∧ X.m.l = t ∧ (encB X false).length ≤ 200 * l.length + 5 := by
  obtain ⟨h1, h2⟩ := fitAll_apply l (xNew lc lp pb) (by unfold xNew mNew Pk.Rp.pos; simp) hb h
  obtain ⟨h3, h4⟩ := runs_mono (M := 16777216) (by omega) h1
  refine ⟨runs (N : Int) (xNew lc lp pb) l, by rw [encR_all h3, h4], read_run h1 rfl (by rw [h2]; exact hN) (by omega), h2, ?_⟩
  have ht := runs_turns h1
  have h0 : (xNew lc lp pb).s.e.turns = 0 := rfl
  have hb : (encB (runs (N : Int) (xNew lc lp pb) l) false).length = (runs (N : Int) (xNew lc lp pb) l).s.e.turns + 5 := by simp [encB, Enc.bytes, be_length]
  omega
end Go.Proofs.Ythdjnbhdgacmgaa.Lz
end
section
set_option linter.unusedVariables false
namespace Go.Proofs.Ythdjnbhdgacmgaa.Lz
open Go.RowKit
open Rc Mo
open Pk (Rp Pt applyL IsPts)
theorem back_both (lc lp pb : Nat) (hl : lc + lp ≤ 4) (hpb : pb ≤ 4) {qs : List Pt} {s : ByteArray} (hb : ∀ p ∈ qs, p.b < 256) (h : applyL s.size qs [] ⟨1, 1, 1, 1⟩ = (s.data.toList, 0)) (hs : s.size ≤ 16777216) (hq : qs.length ≤ 1000) :
    ∃ bs : ByteArray, (∀ (W : World) (a : Option Addr) (cap : Nat), IsPts W a qs → Calls Try.prog 14 #[.slice a qs.length cap, .agg #[.int .i64 (lc : Int), .int .i64 (lp : Int), .int .i64 (pb : Int)], .bool false] W fun z w' => z = .returned (.tuple #[.string bs, .int .i64 0]) ∧ Below W.heap.size W w') ∧
      ∀ W : World, Calls Try.prog 10 #[.string bs, .agg #[.int .i64 (lc : Int), .int .i64 (lp : Int), .int .i64 (pb : Int)], .int .i64 (s.size : Int), .int .i64 (s.size : Int)] W fun x w' => x = .returned (.tuple #[.string s, .int .i64 0]) ∧ Below W.heap.size W w' := by
  have hss : (⟨s.data.toList.toArray⟩ : ByteArray) = s := by cases s; simp
  obtain ⟨X, h1, h2, h3, h4⟩ := read_all (N := s.size) lc lp pb hb h (by rw [Array.length_toList]; rfl) hs
  have hbs : (⟨(encB X false).toArray⟩ : ByteArray).size ≤ 1000000000000 := by show (encB X false).toArray.size ≤ _; rw [List.size_toArray]; omega
  refine ⟨⟨(encB X false).toArray⟩, fun W a cap hi => ?_, fun W => ?_⟩
  · have := encode_any lc lp pb hl hpb false (cap := cap) hi hq
    rw [h1] at this
    exact this
  · have := dec_any lc lp pb hl hpb ⟨(encB X false).toArray⟩ hbs (s.size : Int) (s.size : Int) (by omega) (by omega) (by omega) (by omega) W
    rw [h2] at this
    have hv : decV (some (X.m, qs)) = .tuple #[.string s, .int .i64 0] := by
      show Value.tuple #[.string ⟨X.m.l.toArray⟩, .int .i64 0] = _
      rw [h3, hss]
    rw [hv] at this
    exact this
end Go.Proofs.Ythdjnbhdgacmgaa.Lz
end
