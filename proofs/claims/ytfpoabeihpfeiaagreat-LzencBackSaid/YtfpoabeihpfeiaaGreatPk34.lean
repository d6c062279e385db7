/-
  Package lzenc: the contract of Encode.
  Package lzdec: the contracts of the decoding's small methods.
  Package lzdec: what bytes tell (mathematics); the contract of lacks.
  Package lzdec: the contracts of what is told each packet (two function values); a least number.
-/
import Derived.Test.YtfpoabeihpfeiaaGreatPk10
import Derived.Test.YtfpoabeihpfeiaaGreatPk32
import Derived.Deep.RegionHeld3
set_option maxRecDepth 100000
set_option maxHeartbeats 16000000
set_option linter.unusedVariables false
set_option linter.unusedSimpArgs false
open Go.Lib (hid)
section
namespace Go.Proofs.YtfpoabeihpfeiaaGreat.Lz
open Go.RowKit
open Rc Mo
open Pk (Rp Pt four IsPts)
noncomputable def encR (most : Int) : Pr -> List Pt -> Option Pr
 | x, [] => some x
 | x, p :: l => match fitM most x.m p with
  | none => none
  | some _ => encR most (x.put most p) l
theorem encR_all {most : Int} : ∀ {l : List Pt} {x : Pr}, FitAll most x l -> encR most x l = some (runs most x l)
 | [], x, _ => rfl
 | p :: l, x, h => by
  obtain ⟨⟨_, y, hy⟩, h2⟩ := h
  rw [encR, hy]
  exact encR_all h2
theorem encR_no {most : Int} {x : Pr} {p : Pt} {l : List Pt} (h : fitM most x.m p = none) : encR most x (p :: l) = none := by rw [encR, h]
theorem encR_yes {most : Int} {x : Pr} {p : Pt} {l : List Pt} {y : Int × Int × Rp} (h : fitM most x.m p = some y) : encR most x (p :: l) = encR most (x.put most p) l := by rw [encR, h]
noncomputable def xNew (lc lp pb : Nat) : Pr := ⟨mNew lc lp pb, ⟨Enc.start, qNew⟩⟩
noncomputable def encB (x : Pr) (fin : Bool) : List UInt8 := if fin then (x.s.code x.m pend).e.bytes else x.s.e.bytes
noncomputable def encV (x : Option Pr) (fin : Bool) : Value := match x with
 | none => .tuple #[.string ⟨#[]⟩, .int .i64 6]
 | some x => .tuple #[.string ⟨(encB x fin).toArray⟩, .int .i64 0]
structure LockS (w0 : World) (i : Mid) (E : Nat) (x : Pr) (w : World) (O : Paint) : Prop where
 run : Run w0 w O
 one : Whole w O i x.m x.s.q
 enc : EncAt w O 5 E x.s.e
 c1 : i.cw = 1
 c2 : i.cm = 2
section
variable {cs : List Nat} {w0 w w' : World} {O O' : Paint} {i : Mid} {x : Pr} {E : Nat}
theorem LockS.idle (h : LockS w0 i E x w O) (hs : Step [] w O w' O') : LockS w0 i E x w' O' := ⟨h.run.step hs (by simp), h.one.step hs (by simp) (by simp), h.enc.step hs (by simp), h.c1, h.c2⟩
theorem LockS.news (h : LockS w0 i E x w O) (hb : Below w.heap.size w w') : LockS w0 i E x w' O := h.idle (Step.of_below_same hb O)
theorem LockS.put (h : LockS w0 i E x w O) (ht : x.s.e.turns <= 600000) (p : Pt) (hb : p.b < 256) :
  Calls Tryz.prog 30 #[.pointer (some ⟨i.mo, 0, none⟩), .pointer (some ⟨E, 0, none⟩), p.val] w fun z w' => z = .returned (.bool (fitM i.most x.m p).isSome) /\ ∃ O', Step [5, i.cw, i.cm] w O w' O' /\ LockS w0 i E (x.put i.most p) w' O' := by
 have o1 : i.cw ≠ 5 := by rw [h.c1]; omega
 have o2 : 5 ≠ i.cm := by rw [h.c2]; omega
 cases hf : fitM i.most x.m p with
 | none =>
  refine (put_no h.one E p hf).mono ?_
  rintro z w' ⟨rfl, hb'⟩
  rw [Pr.put_no hf]
  have hs := Step.of_below_same hb' O
  exact ⟨rfl, O, hs.nil, h.idle hs⟩
 | some y =>
  obtain ⟨q1, q2⟩ := pkOf_ok hb (fitM_some hf).1
  refine (put_yes h.one h.enc o1 o2 ht p hb y hf (pkOf p) q1 q2).mono ?_
  rintro z w' ⟨rfl, O', hs, hw, he⟩
  rw [Pr.put_yes hf]
  exact ⟨rfl, O', hs, h.run.step hs (by rw [h.c1, h.c2]; simp), hw, he, h.c1, h.c2⟩
theorem LockS.fin (h : LockS w0 i E x w O) (ht : x.s.e.turns <= 600000) :
  Calls Tryz.prog 31 #[.pointer (some ⟨i.mo, 0, none⟩), .pointer (some ⟨E, 0, none⟩)] w fun z w' => z = .returned (.tuple #[]) /\ ∃ O', LockS w0 i E ⟨x.m, x.s.code x.m pend⟩ w' O' := by
 have o1 : i.cw ≠ 5 := by rw [h.c1]; omega
 have o2 : 5 ≠ i.cm := by rw [h.c2]; omega
 refine (put_end h.one h.enc o1 o2 ht).mono ?_
 rintro z w' ⟨rfl, O', hs, hw, he⟩
 exact ⟨rfl, O', h.run.step hs (by rw [h.c2]; simp), hw, he, h.c1, h.c2⟩
end
theorem three_cells {w : World} {X : Nat} {a b c : Value} {t : TypeId} (h : w.heap[X]? = some (.cells #[a, b, c] t (0, 0))) :
  w.cell? ⟨X, 0, none⟩ = some a /\ w.cell? ⟨X, 1, none⟩ = some b /\ w.cell? ⟨X, 2, none⟩ = some c :=
 ⟨by simp [World.cell?, h], by simp [World.cell?, h], by simp [World.cell?, h]⟩
theorem encode_any (lc lp pb : Nat) (hl : lc + lp <= 4) (hpb : pb <= 4) (fin : Bool) {a : Option Addr} {ps : List Pt} {cap : Nat} {w : World} (h : IsPts w a ps) (hn : ps.length <= 1000) :
  Calls Tryz.prog 12 #[.slice a ps.length cap, .agg #[.int .i64 lc, .int .i64 lp, .int .i64 pb], .bool fin] w fun z w' => z = .returned (encV (encR 16777216 (xNew lc lp pb) ps) fin) /\ Below w.heap.size w w' := by
 have hgood : goodB (lc : Int) (lp : Int) (pb : Int) = true := by unfold goodB; simp; omega
 have hb1 : Below w.heap.size w (w.alloc (.cells #[.int .i64 lc, .int .i64 lp, .int .i64 pb] 26)) := (Below.refl _ _).alloc (Nat.le_refl _) _
 have hz := heap_alloc_new w (.cells #[.int .i64 lc, .int .i64 lp, .int .i64 pb] 26)
 have HG := hid (fun W => good_any (lc : Int) (lp : Int) (pb : Int) ⟨by omega, by omega⟩ ⟨by omega, by omega⟩ W)
 rw [hgood] at HG
 have HNM := hid (fun W O => new_model lc lp pb hl hpb 16777216 (by omega) (by omega) W O 1 2 (by omega))
 have HIP := hid h
 have HXD : Hid (∃ X, X = xNew lc lp pb) := hid ⟨_, rfl⟩
 obtain ⟨X, hX⟩ := HXD.out
 rw [<- hX]
 have HX := hid hX
 clear h hgood hl hpb HXD hX
 go_enter Tryz.func12, Tryz.ntmps12
 go_upto_region 1 with (fail)
 have HB1 := hid hb1
 have HZ := hid hz
 generalize w.alloc (.cells #[.int .i64 lc, .int .i64 lp, .int .i64 pb] 26) = W1 at *
 have hHPP : Hid (∃ P, P = w.heap.size) := hid ⟨_, rfl⟩
 obtain ⟨P, hP⟩ := hHPP.out
 rw [<- hP] at HZ ⊢
 clear hP hHPP hb1 hz
 obtain ⟨p0, p1, p2⟩ := three_cells HZ.out
 go_wp2_with fail
 refine (HG.out W1).mono ?_
 rintro x w2 ⟨rfl, hb2⟩
 have HB2 := hid (HB1.out.trans (hb2.mono HB1.out.size))
 have HZ2 := hid ((hb2.block P (lt_of_heap HZ.out)).trans HZ.out)
 obtain ⟨p0, p1, p2⟩ := three_cells HZ2.out
 clear hb2 HB1 HZ HG
 go_wp2_with fail
 refine (HNM.out w2 (fun _ => 0)).mono ?_
 rintro x w3 ⟨i, O3, rfl, hi1, hi2, hi3, hs3, hW3⟩
 have HR3 := hid ((Run.mk HB2.out (fun _ _ => rfl)).step hs3 (by simp))
 have HW3 := hid hW3
 have HIP3 := hid (HIP.out.below (HB2.out.trans ((hs3.below (B := w.heap.size) HB2.out.size (fun _ _ => by simp)))))
 clear hs3 hW3 HNM HB2 HZ2 p0 p1 p2
 go_wp2_with fail
 refine (new_enc w3 O3 5).mono ?_
 rintro x w4 ⟨E, rfl, _, O4, hs4, he4⟩
 have hL4 : LockS w i E (xNew lc lp pb) w4 O4 := ⟨HR3.out.step hs4 (by simp), HW3.out.step hs4 (by simp) (by simp), he4, hi1, hi2⟩
 rw [<- HX.out] at hL4
 have HL0 : Hid (∃ O', LockS w i E X w4 O') := hid ⟨O4, hL4⟩
 have HT0 : Hid (X.s.e.turns = 0) := hid (by rw [HX.out]; rfl)
 have HPT : Hid (∀ W O x, LockS w i E x W O -> IsPts W a ps) := hid (fun W O x hx => HIP.out.below hx.run.below)
 have HI := hid hi3
 clear hs4 he4 hL4 HR3 HW3 HX HIP3 HIP hi1 hi2 hi3
 go_wp2_with fail
 go_loopw [20] (fun j wr => ∃ (k : Nat) (x : Pr) (O : Paint), k <= ps.length /\ j = .int .i64 k /\ LockS w i E x wr O /\ encR 16777216 x (ps.drop k) = encR 16777216 X ps /\ x.s.e.turns <= 200 * k) (fun j _ => ps.length - (intOf j).toNat)
 case atStart =>
  obtain ⟨O', h⟩ := HL0.out
  exact ⟨0, X, O', by omega, rfl, h, rfl, by rw [HT0.out]; omega⟩
 case round =>
  clear HL0 HT0
  obtain ⟨k, x, O, hk, rfl, hL, hE, ht⟩ := hrel
  by_cases hlt : k < ps.length
  · rcases HPT.out wr O x hL with he | ⟨b0, off, rfl, hc⟩
    · rw [he] at hlt; simp at hlt
    · have hdr : ps.drop k = ps[k] :: ps.drop (k + 1) := by rw [List.drop_eq_getElem_cons hlt]
      obtain ⟨c0, c1, c2, c3, hb⟩ := hc k hlt
      rw [hdr] at hE
      have HL := hid hL
      have hpt := Pr.put_turns (most := 16777216) (x := x) hb
      clear hc hdr hL HPT
      generalize ps[k] = p at *
      have hb5 : Below wr.heap.size wr (wr.alloc (.cells #[.int .i64 p.k, .int .i64 p.d, .int .i64 p.n, .int .u8 p.b] 37)) := (Below.refl _ _).alloc (Nat.le_refl _) _
      have HL5 := hid (HL.out.news hb5)
      have hz5 := heap_alloc_new wr (.cells #[.int .i64 p.k, .int .i64 p.d, .int .i64 p.n, .int .u8 p.b] 37)
      have e1 : (0 : Int) <= (k : Int) := by omega
      have e2 : (k : Int) < (ps.length : Int) := by omega
      go_upto_region 7 with (fail)
      generalize wr.alloc (.cells #[.int .i64 p.k, .int .i64 p.d, .int .i64 p.n, .int .u8 p.b] 37) = w5 at *
      generalize wr.heap.size = Y at *
      obtain ⟨⟨q0, q1, q2, q3⟩, _, _⟩ := four hz5
      have HPU := hid (HL5.out.put (by omega) p hb)
      unfold Pk.Pt.val at HPU
      rw [HI.out] at HPU
      clear hb5 HL HL5 hz5 c0 c1 c2 c3
      go_wp2_with fail
      refine HPU.out.mono ?_
      rintro z w6 ⟨rfl, O6, hs6, hL6⟩
      have HL6 := hid hL6
      clear hs6 hL6 HPU
      cases hf : fitM 16777216 x.m p with
      | none =>
       rw [encR_no hf] at hE
       have HE := hid hE
       have HB6 := hid HL6.out.run.below
       clear hE hf HL6
       go_wp2_with fail
       go_ret2
       exact ⟨by rw [<- HE.out]; rfl, HB6.out⟩
      | some y =>
       rw [encR_yes hf] at hE
       have HE := hid hE
       have HPT2 := hid hpt
       clear hE hf hpt
       go_wp2_with fail
       go_roundw
       case rel => exact ⟨k + 1, _, O6, by omega, by go_num, HL6.out, HE.out, by have := HPT2.out; omega⟩
       case measure => simp [intOf]; omega
  · obtain rfl : k = ps.length := by omega
    rw [List.drop_length, encR] at hE
    have HE := hid hE
    have HL := hid hL
    clear hE hL HPT HI
    cases fin with
    | false =>
     have HEND := hid (enc_end HL.out.enc (by omega))
     go_wp2_with fail
     refine HEND.out.mono ?_
     rintro z w6 ⟨rfl, hb6⟩
     have HB6 := hid (HL.out.run.below.trans (hb6.mono HL.out.run.below.size))
     clear hb6 HEND HL
     go_wp2_with fail
     go_ret2
     exact ⟨by rw [<- HE.out]; rfl, HB6.out⟩
    | true =>
     have HFIN := hid (HL.out.fin (by omega))
     have htp := Es.code_turns x.s x.m pend_ok
     go_wp2_with fail
     refine HFIN.out.mono ?_
     rintro z w6 ⟨rfl, O6, hL6⟩
     have HL6 := hid hL6
     have HEND := hid (enc_end HL6.out.enc (show (x.s.code x.m pend).e.turns <= 1000000 by omega))
     clear hL6 HFIN HL
     go_wp2_with fail
     refine HEND.out.mono ?_
     rintro z w7 ⟨rfl, hb7⟩
     have HB7 := hid (HL6.out.run.below.trans (hb7.mono HL6.out.run.below.size))
     clear hb7 HEND HL6
     go_wp2_with fail
     go_ret2
     exact ⟨by rw [<- HE.out]; rfl, HB7.out⟩
end Go.Proofs.YtfpoabeihpfeiaaGreat.Lz
end
section
namespace Go.Proofs.YtfpoabeihpfeiaaGreat.Lz
open Go.RowKit
open Rc Mo
open Pk (Rp Pt four IsPts)
def dv (mo D : Nat) (n : Int) : Value := .agg #[.pointer (some ⟨mo, 0, none⟩), .iface 92 (.agg #[.pointer (some ⟨D, 0, none⟩)]), .int .i64 n]
structure LockT (w0 : World) (i : Mid) (D : Nat) (m : Ms) (d : Ds) (tot : Nat) (w : World) (O : Paint) : Prop where
 run : Run w0 w O
 one : Whole w O i m d.q
 dec : DecAt w O 6 D d.d tot
 c1 : i.cw = 1
 c2 : i.cm = 2
section
variable {cs : List Nat} {w0 w w' : World} {O O' : Paint} {i : Mid} {m : Ms} {d : Ds} {D tot : Nat} {n : Int}
theorem LockT.step (h : LockT w0 i D m d tot w O) (hs : Step cs w O w' O') (h0 : 0 ∉ cs) (h1 : 1 ∉ cs) (h2 : 2 ∉ cs) (h6 : 6 ∉ cs) : LockT w0 i D m d tot w' O' := ⟨h.run.step hs h0, h.one.step hs (by rw [h.c1]; exact h1) (by rw [h.c2]; exact h2), h.dec.step hs h6, h.c1, h.c2⟩
theorem LockT.idle (h : LockT w0 i D m d tot w O) (hs : Step [] w O w' O') : LockT w0 i D m d tot w' O' := h.step hs (by simp) (by simp) (by simp) (by simp)
theorem LockT.news (h : LockT w0 i D m d tot w O) (hb : Below w.heap.size w w') : LockT w0 i D m d tot w' O := h.idle (Step.of_below_same hb O)
theorem LockT.get (h : LockT w0 i D m d tot w O) :
  Calls Tryz.prog 116 #[.pointer (some ⟨i.mo, 0, none⟩), .pointer (some ⟨D, 0, none⟩)] w fun z w' => z = .returned (.tuple #[(got i.most m (d.codeP m).pt).1.val, .bool (got i.most m (d.codeP m).pt).2.1, .bool (got i.most m (d.codeP m).pt).2.2.1]) /\ ∃ O', Step [6, 1, 2] w O w' O' /\ LockT w0 i D (got i.most m (d.codeP m).pt).2.2.2 (d.code m) tot w' O' := by
 have o1 : i.cw ≠ 6 := by rw [h.c1]; omega
 have o2 : 6 ≠ i.cm := by rw [h.c2]; omega
 refine (get_any h.one h.dec o1 o2).mono ?_
 rintro z w' ⟨rfl, O', hs, hw, he⟩
 have e : (⟨d.d, d.q⟩ : Ds) = d := rfl
 rw [e] at hw he ⊢
 rw [h.c1, h.c2] at hs
 exact ⟨rfl, O', hs, h.run.step hs (by simp), hw, he, h.c1, h.c2⟩
end
section
variable {cs : List Nat} {w0 w w' : World} {O O' : Paint} {i : Mid} {m : Ms} {d : Ds} {D tot : Nat} {n : Int}
theorem n_done (D : Nat) (W : World) : (nilAhead 310 92 (.agg #[.pointer (some ⟨D, 0, none⟩)]) "Done").run Tryz.prog W = .ok (some false) W := by kernel_rfl
theorem m_done (D : Nat) (W : World) : (method 310 92 (.agg #[.pointer (some ⟨D, 0, none⟩)]) "Done").run Tryz.prog W = .ok (113, .pointer (some ⟨D, 0, none⟩)) W := by kernel_rfl
theorem n_bad (D : Nat) (W : World) : (nilAhead 310 92 (.agg #[.pointer (some ⟨D, 0, none⟩)]) "Bad").run Tryz.prog W = .ok (some false) W := by kernel_rfl
theorem m_bad (D : Nat) (W : World) : (method 310 92 (.agg #[.pointer (some ⟨D, 0, none⟩)]) "Bad").run Tryz.prog W = .ok (112, .pointer (some ⟨D, 0, none⟩)) W := by kernel_rfl
theorem n_packet (D : Nat) (W : World) : (nilAhead 310 92 (.agg #[.pointer (some ⟨D, 0, none⟩)]) "cassone/lzdec.packet").run Tryz.prog W = .ok (some false) W := by kernel_rfl
theorem m_packet (D : Nat) (W : World) : (method 310 92 (.agg #[.pointer (some ⟨D, 0, none⟩)]) "cassone/lzdec.packet").run Tryz.prog W = .ok (115, .agg #[.pointer (some ⟨D, 0, none⟩)]) W := by kernel_rfl
theorem upto_any (mo D : Nat) (n : Int) (w : World) : Calls Tryz.prog 65 #[dv mo D n] w fun x w' => x = .returned (.bool (decide (n < 0))) /\ Below w.heap.size w w' := by
 unfold dv
 have hb1 : Below w.heap.size w (w.alloc (.cells #[.pointer (some ⟨mo, 0, none⟩), .iface 92 (.agg #[.pointer (some ⟨D, 0, none⟩)]), .int .i64 n] 63)) := (Below.refl _ _).alloc (Nat.le_refl _) _
 obtain ⟨p0, p1, p2⟩ := three_cells (heap_alloc_new w (.cells #[.pointer (some ⟨mo, 0, none⟩), .iface 92 (.agg #[.pointer (some ⟨D, 0, none⟩)]), .int .i64 n] 63))
 have HB1 := hid hb1
 clear hb1
 go_enter Tryz.func65, Tryz.ntmps65
 go_upto_region 1 with (fail)
 generalize w.alloc (.cells #[.pointer (some ⟨mo, 0, none⟩), .iface 92 (.agg #[.pointer (some ⟨D, 0, none⟩)]), .int .i64 n] 63) = W1 at *
 go_wp2_with fail
 go_ret
 exact ⟨rfl, HB1.out⟩
theorem over_any (h : LockT w0 i D m d tot w O) (n : Int) : Calls Tryz.prog 66 #[dv i.mo D n] w fun x w' => x = .returned (.bool (d.d.done && !d.d.bad)) /\ Below w.heap.size w w' := by
 unfold dv
 have hb1 : Below w.heap.size w (w.alloc (.cells #[.pointer (some ⟨i.mo, 0, none⟩), .iface 92 (.agg #[.pointer (some ⟨D, 0, none⟩)]), .int .i64 n] 63)) := (Below.refl _ _).alloc (Nat.le_refl _) _
 have HL1 := hid (h.news hb1)
 obtain ⟨p0, p1, p2⟩ := three_cells (heap_alloc_new w (.cells #[.pointer (some ⟨i.mo, 0, none⟩), .iface 92 (.agg #[.pointer (some ⟨D, 0, none⟩)]), .int .i64 n] 63))
 have HB1 := hid hb1
 clear hb1 h
 go_enter Tryz.func66, Tryz.ntmps66
 go_upto_region 1 with (fail)
 generalize w.alloc (.cells #[.pointer (some ⟨i.mo, 0, none⟩), .iface 92 (.agg #[.pointer (some ⟨D, 0, none⟩)]), .int .i64 n] 63) = W1 at *
 have a1 := n_done D
 have a2 := m_done D
 have a3 := n_bad D
 have a4 := m_bad D
 have HDO := hid (dec_done HL1.out.dec)
 go_wp2_with fail
 refine HDO.out.mono ?_
 rintro x w2 ⟨rfl, k2, rfl⟩
 have HL2 := hid (HL1.out.idle ((Step.refl [] W1 O).drewN k2))
 have HB2 := hid (HB1.out.trans ((below_drewN (Below.refl W1.heap.size W1) k2).mono HB1.out.size))
 have q1 : (W1.drewN k2).cell? ⟨w.heap.size, 1, none⟩ = _ := p1
 have HBA := hid (dec_bad HL2.out.dec)
 clear HL1 HB1 HDO p0 p1 p2
 generalize W1.drewN k2 = W2 at *
 cases hdn : d.d.done with
 | true =>
  go_wp2_with fail
  refine HBA.out.mono ?_
  rintro x w3 ⟨rfl, rfl⟩
  go_wp2_with fail
  go_ret
  exact ⟨by rw [hdn]; simp, HB2.out⟩
 | false =>
  go_wp2_with fail
  go_ret
  exact ⟨by rw [hdn]; simp, HB2.out⟩
theorem packet_any (h : LockT w0 i D m d tot w O) : Calls Tryz.prog 115 #[.agg #[.pointer (some ⟨D, 0, none⟩)], .pointer (some ⟨i.mo, 0, none⟩)] w fun z w' => z = .returned (.tuple #[(got i.most m (d.codeP m).pt).1.val, .bool (got i.most m (d.codeP m).pt).2.1, .bool (got i.most m (d.codeP m).pt).2.2.1]) /\ ∃ O', Step [6, 1, 2] w O w' O' /\ LockT w0 i D (got i.most m (d.codeP m).pt).2.2.2 (d.code m) tot w' O' := by
 have hb1 : Below w.heap.size w ((w.alloc (.cells #[.pointer (some ⟨D, 0, none⟩)] 92)).alloc (.cells #[.int .i64 0, .int .i64 0, .int .i64 0, .int .u8 0] 37)) := ((Below.refl _ _).alloc (Nat.le_refl _) _).alloc (by simp) _
 have hs1 := Step.of_below hb1 O 9
 have HL1 := hid (h.idle hs1)
 have hX := heap_alloc_new w (.cells #[.pointer (some ⟨D, 0, none⟩)] 92)
 have hX2 := (Below.heap_alloc (w.alloc (.cells #[.pointer (some ⟨D, 0, none⟩)] 92)) (.cells #[.int .i64 0, .int .i64 0, .int .i64 0, .int .u8 0] 37) _ (lt_of_heap hX)).trans hX
 have hz := heap_alloc_new (w.alloc (.cells #[.pointer (some ⟨D, 0, none⟩)] 92)) (.cells #[.int .i64 0, .int .i64 0, .int .i64 0, .int .u8 0] 37)
 rw [World.size_alloc] at hz
 have hz9 : Step.paint O w 9 (w.heap.size + 1) = 9 := Step.paint_new (by omega)
 have HS1 := hid hs1
 have HG := hid HL1.out.get
 obtain ⟨g, hg⟩ : ∃ g, g = got i.most m (d.codeP m).pt := ⟨_, rfl⟩
 rw [<- hg] at HG ⊢
 clear hg
 obtain ⟨p, e, k, m'⟩ := g
 simp only at HG ⊢
 clear hb1 h hs1 hX
 go_enter Tryz.func115, Tryz.ntmps115
 go_upto_region 1 with (fail)
 generalize (w.alloc (.cells #[.pointer (some ⟨D, 0, none⟩)] 92)).alloc (.cells #[.int .i64 0, .int .i64 0, .int .i64 0, .int .u8 0] 37) = W1 at *
 generalize Step.paint O w 9 = O1 at *
 have HPP : Hid (∃ P, P = w.heap.size) := hid ⟨_, rfl⟩
 obtain ⟨P, hP⟩ := HPP.out
 rw [<- hP] at hz hz9 hX2 ⊢
 have hPw : w.heap.size <= P + 1 := by omega
 clear hP HPP
 have c0 : W1.cell? ⟨P, 0, none⟩ = some (.pointer (some ⟨D, 0, none⟩)) := by simp [World.cell?, hX2]
 have HZ := hid (show Blk W1 O1 9 (P + 1) _ from ⟨hz, hz9⟩)
 clear hX2 hz hz9
 go_wp2_with fail
 refine HG.out.mono ?_
 rintro x w3 ⟨rfl, O3, hs3, hL3⟩
 have hz3 := HZ.out.step hs3 (by simp)
 have hs13 : Step [6, 1, 2] w O w3 O3 := HS1.out.nil.trans hs3
 have HR : Hid (∀ u0 u1 u2 u3 : Value, Step [6, 1, 2] w O ((((w3.setCell ⟨P + 1, 0, none⟩ u0).setCell ⟨P + 1, 1, none⟩ u1).setCell ⟨P + 1, 2, none⟩ u2).setCell ⟨P + 1, 3, none⟩ u3) O3 /\ LockT w0 i D m' (d.code m) tot ((((w3.setCell ⟨P + 1, 0, none⟩ u0).setCell ⟨P + 1, 1, none⟩ u1).setCell ⟨P + 1, 2, none⟩ u2).setCell ⟨P + 1, 3, none⟩ u3) O3) := hid (fun u0 u1 u2 u3 => by
  refine ⟨(((hs13.setCell (p := ⟨P + 1, 0, none⟩) (.inr hPw) u0).setCell (p := ⟨P + 1, 1, none⟩) (.inr hPw) u1).setCell (p := ⟨P + 1, 2, none⟩) (.inr hPw) u2).setCell (p := ⟨P + 1, 3, none⟩) (.inr hPw) u3, ?_⟩
  exact hL3.step ((((Step.refl [9] w3 O3).setCell (p := ⟨P + 1, 0, none⟩) (.inl (by simp [hz3.2])) u0).setCell (p := ⟨P + 1, 1, none⟩) (.inl (by simp [hz3.2])) u1).setCell (p := ⟨P + 1, 2, none⟩) (.inl (by simp [hz3.2])) u2 |>.setCell (p := ⟨P + 1, 3, none⟩) (.inl (by simp [hz3.2])) u3) (by simp) (by simp) (by simp) (by simp))
 have HZ3 := hid hz3.1
 obtain ⟨_, ⟨f0, f1, f2, f3⟩, hlz⟩ := four hz3.1
 obtain ⟨⟨z0, z1, z2, z3⟩, _, _⟩ := four hz3.1
 clear hs3 hL3 hz3 hs13 HG HS1 HL1 HZ c0
 unfold Pk.Pt.val
 go_wp2_with fail
 have hh := Pk.four_heap HZ3.out (.int .i64 p.k) (.int .i64 p.d) (.int .i64 p.n) (.int .u8 p.b)
 obtain ⟨⟨r0, r1, r2, r3⟩, _, _⟩ := four hh
 have hr := HR.out (.int .i64 p.k) (.int .i64 p.d) (.int .i64 p.n) (.int .u8 p.b)
 clear hh HR HZ3 z0 z1 z2 z3 f0 f1 f2 f3
 refine bodyPost_ret (v := .tuple #[.agg #[.int .i64 p.k, .int .i64 p.d, .int .i64 p.n, .int .u8 p.b], .bool e, .bool k]) ?_ rfl ?_
 · simp [results, Tryz.results115, go_sem, r0, r1, r2, r3]
 · exact ⟨rfl, O3, hr.1, hr.2⟩
end
end Go.Proofs.YtfpoabeihpfeiaaGreat.Lz
end
section
namespace Go.Proofs.YtfpoabeihpfeiaaGreat.Lz
open Go.RowKit
open Rc Mo
open Pk (Rp Pt four IsPts)
def over (d : Ds) : Bool := d.d.done && !d.d.bad
def lacksB (n : Int) (m : Ms) : Bool := decide (n < 0) || decide ((m.l.length : Int) < n)
def decR (n most : Int) : Nat -> Ms -> Ds -> List Pt -> Option (Ms × List Pt)
 | 0, _, _, _ => none
 | f + 1, m, d, acc =>
  if lacksB n m = true /\ d.d.bad = false then
   match got most m (d.codeP m).pt with
   | (p, e, k, m') => if k = false then none else if e = true then (if n < 0 /\ over (d.code m) = true then some (m', acc) else none) else decR n most f m' (d.code m) (acc ++ [p])
  else if over d = true then some (m, acc) else none
theorem decR_stop {n most : Int} {f : Nat} {m : Ms} {d : Ds} {acc : List Pt} (h : ¬ (lacksB n m = true /\ d.d.bad = false)) : decR n most (f + 1) m d acc = if over d = true then some (m, acc) else none := by
 rw [decR, if_neg h]
theorem decR_no {n most : Int} {f : Nat} {m m' : Ms} {d : Ds} {acc : List Pt} {p : Pt} {e : Bool} (h : lacksB n m = true /\ d.d.bad = false) (hg : got most m (d.codeP m).pt = (p, e, false, m')) : decR n most (f + 1) m d acc = none := by
 rw [decR, if_pos h, hg]
 simp
theorem decR_end {n most : Int} {f : Nat} {m m' : Ms} {d : Ds} {acc : List Pt} {p : Pt} (h : lacksB n m = true /\ d.d.bad = false) (hg : got most m (d.codeP m).pt = (p, true, true, m')) : decR n most (f + 1) m d acc = if n < 0 /\ over (d.code m) = true then some (m', acc) else none := by
 rw [decR, if_pos h, hg]
 simp
theorem decR_more {n most : Int} {f : Nat} {m m' : Ms} {d : Ds} {acc : List Pt} {p : Pt} (h : lacksB n m = true /\ d.d.bad = false) (hg : got most m (d.codeP m).pt = (p, false, true, m')) : decR n most (f + 1) m d acc = decR n most f m' (d.code m) (acc ++ [p]) := by
 rw [decR, if_pos h, hg]
 simp
theorem got_more {most : Int} {m m' : Ms} {q p : Pt} (h : got most m q = (p, false, true, m')) (hr : m.r.pos) : ∃ y, fitM most m p = some y /\ m' = m.tell p y /\ p = q := by
 unfold got at h
 split at h
 · simp at h
 · cases hf : fitM most m q with
   | none => rw [hf] at h; simp at h
   | some y =>
    rw [hf] at h
    simp only [Prod.mk.injEq] at h
    obtain ⟨rfl, _, _, rfl⟩ := h
    exact ⟨y, hf, rfl, rfl⟩
theorem tell_grows {most : Int} {m : Ms} {p : Pt} {y : Int × Int × Rp} (h : fitM most m p = some y) (hr : m.r.pos) : (m.l.length : Int) < ((m.tell p y).l.length : Int) /\ ((m.tell p y).l.length : Int) <= most /\ (m.tell p y).r.pos := by
 obtain ⟨h1, h2⟩ := fitM_some h
 obtain ⟨d, n, s⟩ := y
 obtain ⟨h3, h4⟩ := Pk.fit_some h1 hr
 simp only at h2
 rcases h4 with ⟨hk, rfl⟩ | ⟨hk, h5, h6, h7, h8⟩
 · simp only [Ms.tell, if_pos hk, List.length_append, List.length_cons, List.length_nil]
   exact ⟨by omega, by omega, h3⟩
 · simp only [Ms.tell, if_neg hk, Wnd.copied_length]
   exact ⟨by omega, by omega, h3⟩
section
variable {cs : List Nat} {w0 w w' : World} {O O' : Paint} {i : Mid} {m : Ms} {d : Ds} {D tot : Nat} {n : Int}
theorem lacks_some (h : LockT w0 i D m d tot w O) (hn : ¬ n < 0) (hl : m.l.length <= 1000000000) : Calls Tryz.prog 64 #[dv i.mo D n] w fun x w' => x = .returned (.bool (lacksB n m)) /\ Below w.heap.size w w' := by
 have HU := hid (fun W => upto_any i.mo D n W)
 rw [decide_eq_false hn] at HU
 have HLB : Hid (lacksB n m = decide ((m.l.length : Int) < n)) := hid (by unfold lacksB; rw [decide_eq_false hn]; simp)
 unfold dv at *
 have hb1 : Below w.heap.size w (w.alloc (.cells #[.pointer (some ⟨i.mo, 0, none⟩), .iface 92 (.agg #[.pointer (some ⟨D, 0, none⟩)]), .int .i64 n] 63)) := (Below.refl _ _).alloc (Nat.le_refl _) _
 have HL1 := hid (h.news hb1)
 have hz := heap_alloc_new w (.cells #[.pointer (some ⟨i.mo, 0, none⟩), .iface 92 (.agg #[.pointer (some ⟨D, 0, none⟩)]), .int .i64 n] 63)
 have HB1 := hid hb1
 rw [HLB.out]
 clear hb1 h HLB hn
 obtain ⟨L, hL⟩ : ∃ L : Int, L = (m.l.length : Int) := ⟨_, rfl⟩
 rw [<- hL]
 have HLE := hid hL
 clear hL
 go_enter Tryz.func64, Tryz.ntmps64
 go_upto_region 1 with (fail)
 generalize w.alloc (.cells #[.pointer (some ⟨i.mo, 0, none⟩), .iface 92 (.agg #[.pointer (some ⟨D, 0, none⟩)]), .int .i64 n] 63) = W1 at *
 have HZ := hid hz
 have hPl := lt_of_heap hz
 have HSZ := HB1.out.size
 have HML : Hid (∀ W, Below W1.heap.size W1 W -> Calls Tryz.prog 84 #[.pointer (some ⟨i.mo, 0, none⟩)] W fun e w' => e = .returned (.int .i64 L) /\ W = w') := hid (fun W hb => by rw [HLE.out]; exact model_len (HL1.out.news hb).one)
 generalize hP : w.heap.size = P at *
 have HS : Hid (∀ W', Below W1.heap.size W1 W' -> Below W1.heap.size W1 W' /\ (W'.cell? ⟨P, 0, none⟩ = some (.pointer (some ⟨i.mo, 0, none⟩)) /\ W'.cell? ⟨P, 1, none⟩ = some (.iface 92 (.agg #[.pointer (some ⟨D, 0, none⟩)])) /\ W'.cell? ⟨P, 2, none⟩ = some (.int .i64 n))) := hid fun W' hb => ⟨hb, three_cells ((hb.block P hPl).trans HZ.out)⟩
 have S0 : Below W1.heap.size W1 W1.drew := Pk.bel_drew (Below.refl _ _)
 clear hz HLE
 go_region_held3 (fun W' => Below W1.heap.size W1 W' /\ (W'.cell? ⟨P, 0, none⟩ = some (.pointer (some ⟨i.mo, 0, none⟩)) /\ W'.cell? ⟨P, 1, none⟩ = some (.iface 92 (.agg #[.pointer (some ⟨D, 0, none⟩)])) /\ W'.cell? ⟨P, 2, none⟩ = some (.int .i64 n))) ((refine HS.out _ ?_; first | assumption | exact Pk.bel_new (by assumption) S0)) (first | (go_at_call 65; (with_reducible refine (HU.out _).mono ?_); rintro x w2 ⟨rfl, hb2⟩) | (go_at_call 84; (with_reducible refine (HML.out _ (Pk.bel_new hb2 S0)).mono ?_); rintro x w3 ⟨rfl, rfl⟩))
 all_goals
  have HE := hid (HB1.out.trans ((Pk.bel_new hb2 S0).mono HSZ))
  clear hb2 S0 HS HML HU HL1 HB1 HZ
  go_wp2_with fail
  go_ret
  exact ⟨rfl, by first | exact HE.out | (rw [hP]; exact HE.out)⟩
theorem lacks_up (mo D : Nat) (hn : n < 0) (w : World) : Calls Tryz.prog 64 #[dv mo D n] w fun x w' => x = .returned (.bool true) /\ Below w.heap.size w w' := by
 have HU := hid (fun W => upto_any mo D n W)
 rw [decide_eq_true hn] at HU
 unfold dv at *
 have hb1 : Below w.heap.size w (w.alloc (.cells #[.pointer (some ⟨mo, 0, none⟩), .iface 92 (.agg #[.pointer (some ⟨D, 0, none⟩)]), .int .i64 n] 63)) := (Below.refl _ _).alloc (Nat.le_refl _) _
 have hz := heap_alloc_new w (.cells #[.pointer (some ⟨mo, 0, none⟩), .iface 92 (.agg #[.pointer (some ⟨D, 0, none⟩)]), .int .i64 n] 63)
 have HB1 := hid hb1
 clear hb1 hn
 go_enter Tryz.func64, Tryz.ntmps64
 go_upto_region 1 with (fail)
 generalize w.alloc (.cells #[.pointer (some ⟨mo, 0, none⟩), .iface 92 (.agg #[.pointer (some ⟨D, 0, none⟩)]), .int .i64 n] 63) = W1 at *
 have HZ := hid hz
 have hPl := lt_of_heap hz
 have HSZ := HB1.out.size
 generalize hP : w.heap.size = P at *
 have HS : Hid (∀ W', Below W1.heap.size W1 W' -> Below W1.heap.size W1 W' /\ (W'.cell? ⟨P, 0, none⟩ = some (.pointer (some ⟨mo, 0, none⟩)) /\ W'.cell? ⟨P, 1, none⟩ = some (.iface 92 (.agg #[.pointer (some ⟨D, 0, none⟩)])) /\ W'.cell? ⟨P, 2, none⟩ = some (.int .i64 n))) := hid fun W' hb => ⟨hb, three_cells ((hb.block P hPl).trans HZ.out)⟩
 have S0 : Below W1.heap.size W1 W1.drew := Pk.bel_drew (Below.refl _ _)
 clear hz
 refine wp_region_held_drew (S := (fun W' => Below W1.heap.size W1 W' /\ (W'.cell? ⟨P, 0, none⟩ = some (.pointer (some ⟨mo, 0, none⟩)) /\ W'.cell? ⟨P, 1, none⟩ = some (.iface 92 (.agg #[.pointer (some ⟨D, 0, none⟩)])) /\ W'.cell? ⟨P, 2, none⟩ = some (.int .i64 n)))) (by kernel_rfl) (HS.out _ S0) (fun hHeld => ?_)
 refine wpAnyH_take (i := 0) (v := ?tv1) rfl (by kernel_rfl) (by kernel_rfl) (by kernel_rfl) (fun _ _ _ h => h) (Or.inl ⟨by rfl, ?th1⟩) (by assumption) ?tr1
 case th1 => (intro w hSw; (try dsimp only at hSw); go_simp;  (try with_reducible rfl))
 try simp only [Array.getInternal_eq_getElem, List.getElem_toArray, List.getElem_cons_zero, List.getElem_cons_succ]
 try simp only [Act.put, List.setIfInBounds_toArray, List.set_cons_zero, List.set_cons_succ]
 refine wpAnyH_ready (rs := [1]) (by kernel_rfl) (by simp) ?_
 refine AllReadyH.cons rfl (fun K hK => ?_) AllReadyH.nil
 go_simp
 refine (HU.out _).mono ?_
 rintro x w2 ⟨rfl, hb2⟩
 refine hK.out _ _ (HS.out _ (Pk.bel_new hb2 S0)) (fun hHeld2 => ?_)
 clear hK K hHeld
 have hHeld := hHeld2
 clear hHeld2
 try simp only [Array.getInternal_eq_getElem, List.getElem_toArray, List.getElem_cons_zero, List.getElem_cons_succ]
 try simp only [Act.put, List.setIfInBounds_toArray, List.set_cons_zero, List.set_cons_succ]
 refine wpAnyH_take (i := 2) (v := ?tv2) rfl (by kernel_rfl) (by kernel_rfl) (by kernel_rfl) (fun _ _ _ h => h) (Or.inl ⟨by rfl, ?th2⟩) (by assumption) ?tr2
 case th2 => (intro w hSw; (try dsimp only at hSw); go_simp;  (try with_reducible rfl))
 try simp only [Array.getInternal_eq_getElem, List.getElem_toArray, List.getElem_cons_zero, List.getElem_cons_succ]
 try simp only [Act.put, List.setIfInBounds_toArray, List.set_cons_zero, List.set_cons_succ]
 refine wpAnyH_take (i := 3) (v := undef) rfl (by kernel_rfl) (by kernel_rfl) (by kernel_rfl) (fun _ _ _ h => h) (Or.inr ⟨by rfl, rfl⟩) (by assumption) ?_
 try simp only [Array.getInternal_eq_getElem, List.getElem_toArray, List.getElem_cons_zero, List.getElem_cons_succ]
 try simp only [Act.put, List.setIfInBounds_toArray, List.set_cons_zero, List.set_cons_succ]
 refine wpAnyH_take (i := 4) (v := undef) rfl (by kernel_rfl) (by kernel_rfl) (by kernel_rfl) (fun _ _ _ h => h) (Or.inr ⟨by rfl, rfl⟩) (by assumption) ?_
 try simp only [Array.getInternal_eq_getElem, List.getElem_toArray, List.getElem_cons_zero, List.getElem_cons_succ]
 try simp only [Act.put, List.setIfInBounds_toArray, List.set_cons_zero, List.set_cons_succ]
 refine wpAnyH_take (i := 5) (v := undef) rfl (by kernel_rfl) (by kernel_rfl) (by kernel_rfl) (fun _ _ _ h => h) (Or.inr ⟨by rfl, rfl⟩) (by assumption) ?_
 try simp only [Array.getInternal_eq_getElem, List.getElem_toArray, List.getElem_cons_zero, List.getElem_cons_succ]
 try simp only [Act.put, List.setIfInBounds_toArray, List.set_cons_zero, List.set_cons_succ]
 refine wpAnyH_take (i := 6) (v := undef) rfl (by kernel_rfl) (by kernel_rfl) (by kernel_rfl) (fun _ _ _ h => h) (Or.inr ⟨by rfl, rfl⟩) (by assumption) ?_
 try simp only [Array.getInternal_eq_getElem, List.getElem_toArray, List.getElem_cons_zero, List.getElem_cons_succ]
 try simp only [Act.put, List.setIfInBounds_toArray, List.set_cons_zero, List.set_cons_succ]
 refine wpAnyH_take (i := 7) (v := undef) rfl (by kernel_rfl) (by kernel_rfl) (by kernel_rfl) (fun _ _ _ h => h) (Or.inr ⟨by rfl, rfl⟩) (by assumption) ?_
 try simp only [Array.getInternal_eq_getElem, List.getElem_toArray, List.getElem_cons_zero, List.getElem_cons_succ]
 try simp only [Act.put, List.setIfInBounds_toArray, List.set_cons_zero, List.set_cons_succ]
 refine wpAnyH_take (i := 8) (v := undef) rfl (by kernel_rfl) (by kernel_rfl) (by kernel_rfl) (fun _ _ _ h => h) (Or.inr ⟨by rfl, rfl⟩) (by assumption) ?_
 try simp only [Array.getInternal_eq_getElem, List.getElem_toArray, List.getElem_cons_zero, List.getElem_cons_succ]
 try simp only [Act.put, List.setIfInBounds_toArray, List.set_cons_zero, List.set_cons_succ]
 refine wpAnyH_take (i := 9) (v := Value.bool true) rfl (by kernel_rfl) (by kernel_rfl) (by kernel_rfl) (fun _ _ _ h => h) (Or.inl ⟨by rfl, ?th3⟩) (by assumption) ?tr3
 case th3 => (intro w hSw; (try dsimp only at hSw); go_simp;  (try with_reducible rfl))
 try simp only [Array.getInternal_eq_getElem, List.getElem_toArray, List.getElem_cons_zero, List.getElem_cons_succ]
 try simp only [Act.put, List.setIfInBounds_toArray, List.set_cons_zero, List.set_cons_succ]
 refine wpAnyH_take (i := 10) (v := ?tv4) rfl (by kernel_rfl) (by kernel_rfl) (by kernel_rfl) (fun _ _ _ h => h) (Or.inl ⟨by rfl, ?th4⟩) (by assumption) ?tr4
 case th4 => (intro w hSw; (try dsimp only at hSw); go_simp;  (try with_reducible rfl))
 try simp only [Array.getInternal_eq_getElem, List.getElem_toArray, List.getElem_cons_zero, List.getElem_cons_succ]
 try simp only [Act.put, List.setIfInBounds_toArray, List.set_cons_zero, List.set_cons_succ]
 refine wpAnyH_done (by kernel_rfl) ?_ _
 have HE := hid (HB1.out.trans ((Pk.bel_new hb2 S0).mono HSZ))
 go_wp2_with fail
 go_ret
 exact ⟨rfl, by first | exact HE.out | (rw [hP]; exact HE.out)⟩
theorem lacks_any (h : LockT w0 i D m d tot w O) (n : Int) (hl : m.l.length <= 1000000000) : Calls Tryz.prog 64 #[dv i.mo D n] w fun x w' => x = .returned (.bool (lacksB n m)) /\ Below w.heap.size w w' := by
 by_cases hn : n < 0
 · have e : lacksB n m = true := by unfold lacksB; rw [decide_eq_true hn]; rfl
   rw [e]
   exact lacks_up i.mo D hn w
 · exact lacks_some h hn hl
end
end Go.Proofs.YtfpoabeihpfeiaaGreat.Lz
end
section
namespace Go.Proofs.YtfpoabeihpfeiaaGreat.Lz
open Go.RowKit
open Rc Mo
open Pk (Rp Pt four IsPts)
structure TellAt (w : World) (O : Paint) (L : Nat) (acc : List Pt) : Prop where
 ex : ∃ v, Blk w O 10 L (.cells #[v] 28 (0, 0)) /\ HeldP w O 7 v acc
section
variable {cs : List Nat} {w w' : World} {O O' : Paint} {L : Nat} {acc : List Pt}
theorem TellAt.step (h : TellAt w O L acc) (hs : Step cs w O w' O') (h7 : 7 ∉ cs) (h10 : 10 ∉ cs) : TellAt w' O' L acc := by
 obtain ⟨v, hb, hh⟩ := h.ex
 exact ⟨v, hb.step hs h10, hh.step hs h7⟩
theorem tell_pk (h : TellAt w O L acc) (hl : acc.length <= 1000000000) (p : Pt) :
  Calls Tryz.prog 20 #[p.val, .pointer (some ⟨L, 0, none⟩)] w fun x w' => x = .returned (.tuple #[]) /\ ∃ O', Step [7, 10] w O w' O' /\ TellAt w' O' L (acc ++ [p]) := by
 obtain ⟨v, hb, hh⟩ := h.ex
 have hb1 : Below w.heap.size w (w.alloc (.cells #[.int .i64 p.k, .int .i64 p.d, .int .i64 p.n, .int .u8 p.b] 37)) := (Below.refl _ _).alloc (Nat.le_refl _) _
 have hs1 := Step.of_below hb1 O 9
 have hB1 := hb.step hs1 (by simp)
 have HH1 := hid (hh.step hs1 (by simp))
 have hz := heap_alloc_new w (.cells #[.int .i64 p.k, .int .i64 p.d, .int .i64 p.n, .int .u8 p.b] 37)
 have HS1 := hid hs1
 clear hb1 hs1 hb hh h
 unfold Pk.Pt.val
 go_enter Tryz.func20, Tryz.ntmps20
 go_upto_region 1 with (fail)
 generalize w.alloc (.cells #[.int .i64 p.k, .int .i64 p.d, .int .i64 p.n, .int .u8 p.b] 37) = W1 at *
 generalize Step.paint O w 9 = O1 at *
 obtain ⟨⟨q0, q1, q2, q3⟩, _, _⟩ := four hz
 have c0 : W1.cell? ⟨L, 0, none⟩ = some v := hB1.cell 0
 have HB1 := hid hB1
 have HROW := hid HH1.out.row
 obtain ⟨i0, hi, hz0, hz1, hz2⟩ := info_parts Pl.infoPk
 have hm1 : acc.length + 1 <= maxLen := by unfold maxLen; omega
 have hm2 : (acc.length + 1) * 32 <= 140737488355328 := by omega
 clear hB1 hz
 go_wp2_with (at_builtin; refine wpList_append_one _ rfl _ _ 28 rfl 37 i0 (.agg #[.int .i64 0, .int .i64 0, .int .i64 0, .int .u8 0]) 4 32 Tryz.underlying28 hi hz0 hz1 hz2 rfl (by decide) v acc.length _ rfl (HROW.out.alloc _) ⟨W1.heap.size, 0, none⟩ 1 [.int .i64 p.k, .int .i64 p.d, .int .i64 p.n, .int .u8 p.b] rfl rfl (Pl.pt_news (heap_alloc_new _ _)) (Pl.pt_one _ _ _ _) hm1 hm2 ?_; intro g9 cap9 w10 hown10 hgr10 hmv10; obtain ⟨t1, t2⟩ := HH1.out.more rfl hown10 hgr10 hmv10; have HT1 := hid t1; have HT2 := hid t2; have hB2 := HB1.out.step t1 (by simp); have HB2 := hid hB2; have c0 : w10.cell? ⟨L, 0, none⟩ = some v := hB2.cell 0; have f0 := hB2.free 0; clear t1 t2 hB2 hown10 hgr10 hmv10)
 have hb5 := HB2.out.setCell 0 (.slice (some ⟨g9, 0, none⟩) (acc.length + 1) cap9)
 simp at hb5
 have hs5 : Step [10] w10 (Step.paint O1 W1 7) (w10.setCell ⟨L, 0, none⟩ (.slice (some ⟨g9, 0, none⟩) (acc.length + 1) cap9)) (Step.paint O1 W1 7) := (Step.refl [10] _ _).setCell (p := ⟨L, 0, none⟩) (.inl (by simp [HB2.out.2])) _
 have hres : ∃ O', Step [7, 10] w O (w10.setCell ⟨L, 0, none⟩ (.slice (some ⟨g9, 0, none⟩) (acc.length + 1) cap9)) O' /\ TellAt (w10.setCell ⟨L, 0, none⟩ (.slice (some ⟨g9, 0, none⟩) (acc.length + 1) cap9)) O' L (acc ++ [p]) :=
  ⟨_, (HS1.out.nil.trans (HT1.out.mono (by simp))).trans (hs5.mono (by simp)), ⟨_, hb5, HT2.out.step hs5 (by simp)⟩⟩
 clear hb5 hs5 HT1 HT2 HB2 HS1
 first | go_end0 | (simp only [Exit.inBlock, Exit.then]; refine bodyPost_ret (results_none rfl _ _ _) rfl ?_) | refine bodyPost_ret (results_none rfl _ _ _) rfl ?_
 exact ⟨rfl, hres⟩
theorem tell_no (p : Pt) (w : World) : Calls Tryz.prog 21 #[p.val] w fun x w' => x = .returned (.tuple #[]) /\ Below w.heap.size w w' := by
 unfold Pk.Pt.val
 go_enter Tryz.func21, Tryz.ntmps21
 go_wp2_with fail
 have hb : Below w.heap.size w (w.alloc (.cells #[.int .i64 p.k, .int .i64 p.d, .int .i64 p.n, .int .u8 p.b] 37)) := (Below.refl _ _).alloc (Nat.le_refl _) _
 first | go_end0 | (simp only [Exit.inBlock, Exit.then]; refine bodyPost_ret (results_none rfl _ _ _) rfl ?_) | refine bodyPost_ret (results_none rfl _ _ _) rfl ?_
 exact ⟨rfl, hb⟩
end
theorem exists_least (P : Nat -> Prop) : ∀ n, P n -> ∃ m, P m /\ ∀ k, P k -> m <= k := by
 intro n
 induction n using Nat.strongRecOn with
 | ind n ih =>
  intro hn
  by_cases h : ∃ k, k < n /\ P k
  · obtain ⟨k, hk, hp⟩ := h
    exact ih k hk hp
  · exact ⟨n, hn, fun k hk => by
     apply Nat.le_of_not_lt
     intro hlt
     exact h ⟨k, hlt, hk⟩⟩
open Classical in
noncomputable def least (P : Nat -> Prop) : Nat := if h : ∃ n, P n then (exists_least P h.choose h.choose_spec).choose else 0
theorem least_is {P : Nat -> Prop} (h : ∃ n, P n) : P (least P) := by
 unfold least
 rw [dif_pos h]
 exact (exists_least P h.choose h.choose_spec).choose_spec.1
theorem least_le {P : Nat -> Prop} {k : Nat} (hk : P k) : least P <= k := by
 unfold least
 have h : ∃ n, P n := ⟨k, hk⟩
 rw [dif_pos h]
 exact (exists_least P h.choose h.choose_spec).choose_spec.2 k hk
end Go.Proofs.YtfpoabeihpfeiaaGreat.Lz
end
