/-
  Contracts of the developers' decoder of layer 3, more: NewDecoder, Bad, Done, Bit; and of none.
-/
import Derived.Test.YtakbocaemlgbaaaRcDec
namespace Go.Proofs.Ytakbocaemlgbaaa.Rc
open Go.RowKit
theorem step_bad (d : Dec) : stepD { d with bad := true } = { stepD d with bad := true } := by
  obtain ⟨rest, code, size, bad⟩ := d
  cases rest <;> rfl
theorem readN_bad (n : Nat) (d : Dec) : readN n { d with bad := true } = { readN n d with bad := true } := by
  induction n with
  | zero => rfl
  | succ n ih => rw [readN, ih, step_bad]; rfl
theorem step_coded (d : Dec) : stepD d = { d.next with code := 256 * d.code + d.byte } := rfl
theorem read_eq (s : List UInt8) : Dec.read s = readN 4 (if (Dec.fresh s).byte = 0 then (Dec.fresh s).next else { (Dec.fresh s).next with bad := true }) := by
  unfold Dec.read
  split
  · rfl
  · exact (readN_bad 4 _).symm
set_option maxRecDepth 100000 in
set_option maxHeartbeats 1000000 in
theorem newdec_fresh (s : ByteArray) (hs : s.size ≤ 1000000000000) (w : World) (O : Paint) (c : Nat) (hO : ∀ k, k < w.heap.size → O k ≠ c) :
    Calls Try.prog 32 #[.string s] w fun x w' => x = .returned (.pointer (some ⟨w.heap.size, 0, none⟩)) ∧ Step [] w O w' (Step.paint O w c) ∧ DecRaw w' (Step.paint O w c) c w.heap.size (Dec.read s.data.toList) 0 := by
  have H0 : DecRaw (w.alloc (.cells #[.string s, .int .i64 0, .int .u32 0, .int .u32 4294967295, .int .u32 0, .bool false] 114)) (Step.paint O w c) c w.heap.size (Dec.fresh s.data.toList) 0 :=
    ⟨s, 0, ⟨heap_alloc_new w _, Step.paint_new (Nat.le_refl _)⟩, rfl, Nat.zero_le _, hs⟩
  have HS0 := Lib.hid (show Step [] w O (w.alloc (.cells #[.string s, .int .i64 0, .int .u32 0, .int .u32 4294967295, .int .u32 0, .bool false] 114)) (Step.paint O w c) from (((Step.refl [] w O).alloc _).repaint c))
  have hsz : (w.alloc (.cells #[.string s, .int .i64 0, .int .u32 0, .int .u32 4294967295, .int .u32 0, .bool false] 114)).heap.size = w.heap.size + 1 := World.size_alloc _ _
  have HRE := Lib.hid (read_eq s.data.toList)
  have HH := Lib.hid H0
  have HOF := Lib.hid (show ∀ k, k < w.heap.size → Step.paint O w c k ≠ c from fun k hk => by rw [Step.paint_old hk]; exact hO k hk)
  clear H0 hO
  go_enter Try.func32, Try.ntmps32
  go_wp2_with fail
  have hw0 : w.heap.size < (w.alloc (.cells #[.string s, .int .i64 0, .int .u32 0, .int .u32 4294967295, .int .u32 0, .bool false] 114)).heap.size := by omega
  generalize w.alloc (.cells #[.string s, .int .i64 0, .int .u32 0, .int .u32 4294967295, .int .u32 0, .bool false] 114) = W0 at *
  generalize hOO : Step.paint O w c = O1 at *
  have HOO := Lib.hid hOO
  clear hOO hsz
  generalize hA : w.heap.size = a at *
  have HA := Lib.hid hA
  clear hA
  have hcode := Lib.hid (show (Dec.fresh s.data.toList).next.code = 0 by rw [next_code]; rfl)
  refine (decnext HH.out).mono ?_
  rintro x W1 ⟨rfl, hst1, hraw1⟩
  have HST1 := Lib.hid hst1
  have hblt := byte_lt (Dec.fresh s.data.toList)
  obtain ⟨⟨k2, k3, k4, k5⟩, ⟨l2, l3, l4⟩, hlt1, hoa1⟩ := hraw1.cells
  have l5 : W1.frozen? ⟨a, 5, none⟩ = false := by obtain ⟨s', r', hb', _⟩ := hraw1; exact hb'.free 5
  have HRAW1 := Lib.hid hraw1
  clear hst1 hraw1 hoa1 HH k2 k3 k4 l2 l3 l4
  generalize (Dec.fresh s.data.toList).byte = b at *
  generalize (Dec.fresh s.data.toList).next = D1 at *
  have hbI : ((b : Int) != 0) = !(decide (b = 0)) := by
    by_cases h : b = 0
    · simp [h]
    · simp [h]
  by_cases hb : b = 0
  focus
    subst hb
    rw [if_pos rfl] at HRE
    have HS := Lib.hid HST1.out
    have HR := Lib.hid HRAW1.out
    have HC := Lib.hid hcode.out
    clear hcode HRAW1 HST1 k5 l5 hbI
    go_wp2
    generalize D1 = D2 at *
    generalize W1 = W2 at *
  rotate_left
  focus
    rw [if_neg hb] at HRE
    simp only [hb, decide_false, Bool.not_false] at hbI
    obtain ⟨m1, m2⟩ := HRAW1.out.setBad true
    obtain ⟨D2, hD2⟩ : ∃ D2 : Dec, D2 = { D1 with bad := true } := ⟨_, rfl⟩
    have HS := Lib.hid (HST1.out.trans m2)
    rw [← hD2] at m1 HRE
    have HR := Lib.hid m1
    have HC := Lib.hid (show D2.code = 0 by rw [hD2]; exact hcode.out)
    clear hcode HRAW1 HST1 m1 m2 hD2
    go_wp2
    clear k5 l5 hbI hb
    generalize W1.setCell ⟨a, 5, none⟩ (.bool true) = W2 at *
  all_goals
    have HCD := Lib.hid (fun n => readN_code n D2 HC.out)
    go_loopw [13] (fun i wr => ∃ k : Nat, k ≤ 4 ∧ i = .int .i64 k ∧ DecRaw wr O1 c a (readN k D2) 0 ∧ Step [c] W0 O1 wr O1) (fun i _ => 4 - (intOf i).toNat)
    case atStart => exact ⟨0, by omega, rfl, HR.out, HS.out⟩
    case round =>
      clear HR HS hlt1
      obtain ⟨k, hk, rfl, hraw, hst⟩ := hrel
      by_cases hlt : k < 4
      · have hcd : (readN k D2).code < 16777216 := Nat.lt_of_lt_of_le (HCD.out k) (Nat.le_trans (Nat.pow_le_pow_right (by omega) (by omega : k ≤ 3)) (by omega))
        have HSTP := Lib.hid (show readN (k + 1) D2 = { (readN k D2).next with code := 256 * (readN k D2).code + (readN k D2).byte } from rfl)
        generalize readN k D2 = D at *
        have hby := byte_lt D
        obtain ⟨⟨h2, h3, h4, h5⟩, ⟨f2, f3, f4⟩, hlt2, hoa2⟩ := hraw.cells
        have HRAW := Lib.hid hraw.drew
        have HST := Lib.hid hst
        clear hraw hst hoa2 h3 h4 h5 f3 f4
        have HCO := Lib.hid (show ((D.code : Int) * 256 % 4294967296 + (D.byte : Int)) % 4294967296 = ((256 * D.code + D.byte : Nat) : Int) by omega)
        clear hcd
        go_wp2
        go_region_with ((go_at_call 58; refine (decnext (by exact HRAW.out)).mono ?_; rintro x w3 ⟨rfl, hst3, hraw3⟩; have HST3 := Lib.hid hst3.from_drew; have HRAW3 := Lib.hid hraw3; obtain ⟨⟨k2, k3, k4, k5⟩, ⟨l2, l3, l4⟩, hlt3, hoa3⟩ := hraw3.cells; simp only [next_code] at k2; clear hst3 hraw3 hoa3 k3 k4 k5 l3 l4))
        all_goals
          go_wp2
          go_roundw
          case rel =>
            first | rw [HCO.out] | (rw [IntKind.wrap_u32, IntKind.wrap_u32, HCO.out])
            obtain ⟨m1, m2⟩ := HRAW3.out.setCode (256 * D.code + D.byte)
            exact ⟨k + 1, by omega, by go_num, by rw [HSTP.out]; exact m1, (HST.out.trans HST3.out).trans m2⟩
          case measure => simp [intOf]; omega
      · obtain rfl : k = 4 := by omega
        have HRAW := Lib.hid hraw
        have HST := Lib.hid hst
        clear hraw hst
        go_wp2
        go_ret
        refine ⟨by rw [HA.out]; rfl, ?_, by rw [HOO.out, HRE.out, HA.out]; exact HRAW.out⟩
        rw [HOO.out]
        refine ⟨⟨HST.out.frame.os.trans HS0.out.frame.os, HST.out.frame.tape.trans HS0.out.frame.tape, HST.out.frame.output.trans HS0.out.frame.output, Nat.le_trans HS0.out.size HST.out.size, fun k hk _ => ?_⟩, HS0.out.ext⟩
        rw [HST.out.block (Nat.lt_of_lt_of_le hk HS0.out.size) (by rw [List.mem_singleton]; exact HOF.out k (by rw [← HA.out]; exact hk)), HS0.out.block hk (by simp)]
theorem newdec (s : ByteArray) (hs : s.size ≤ 1000000000000) (w : World) (O : Paint) (c : Nat) :
    Calls Try.prog 32 #[.string s] w fun x w' => x = .returned (.pointer (some ⟨w.heap.size, 0, none⟩)) ∧ ∃ O', Step [] w O w' O' ∧ DecAt w' O' c w.heap.size (Dec.read s.data.toList) 0 := by
  refine (newdec_fresh s hs w (fun _ => c + 1) c (fun _ _ => by omega)).mono fun x w' ⟨h1, h2, h3⟩ => ⟨h1, Step.paint O w c, ⟨⟨h2.frame.os, h2.frame.tape, h2.frame.output, h2.size, fun k hk _ => h2.block hk (by simp)⟩, fun k hk => Step.paint_old hk⟩, ?_, fine_read _⟩
  obtain ⟨s', r, hb, hr⟩ := h3
  exact ⟨s', r, ⟨hb.1, Step.paint_new (Nat.le_refl _)⟩, hr⟩
theorem dec_bad {w : World} {O : Paint} {c a tot : Nat} {d : Dec} (h : DecAt w O c a d tot) : Calls Try.prog 36 #[.pointer (some ⟨a, 0, none⟩)] w fun x w' => x = .returned (.bool d.bad) ∧ w = w' := by
  obtain ⟨⟨h2, h3, h4, h5⟩, _, _, _⟩ := h.1.cells
  clear h h2 h3 h4
  go_enter Try.func36, Try.ntmps36
  go_wp2
  go_ret
  exact ⟨rfl, rfl⟩
def Dec.done (d : Dec) : Bool := d.rest.isEmpty && d.code == 0
theorem dec_done {w : World} {O : Paint} {c a tot : Nat} {d : Dec} (h : DecAt w O c a d tot) : Calls Try.prog 35 #[.pointer (some ⟨a, 0, none⟩)] w fun x w' => x = .returned (.bool d.done) ∧ ∃ n, w' = w.drewN n := by
  obtain ⟨⟨s, r, hb, hrest, hr, hs⟩, hf⟩ := h
  obtain ⟨⟨h0, h1, h2, h3, h4, h5⟩, f0, f1, f2, f3, f4, f5⟩ := six hb.1
  have hlt := hb.lt
  have hcd : d.code < 4294967296 := hf.2.2
  by_cases he : r = s.size
  · subst he
    have hd : d.rest = [] := by rw [hrest]; apply List.drop_eq_nil_of_le; simp
    have HD := Lib.hid (show d.done = (d.code == 0) by unfold Dec.done; rw [hd]; rfl)
    clear hb hrest hr hf hd h3 h4 h5 f0 f1 f2 f3 f4 f5
    have hI : ((d.code : Int) == 0) = (d.code == 0) := by rw [Bool.eq_iff_iff]; simp only [beq_iff_eq]; omega
    go_enter Try.func35, Try.ntmps35
    go_wp2
    go_quiet (fail)
    go_wp2
    go_ret
    exact ⟨ret_bool (by rw [HD.out, ← hI]), _, rfl⟩
  · have hne : d.rest.isEmpty = false := by rw [hrest]; simp; omega
    have HD := Lib.hid (show d.done = false by unfold Dec.done; rw [hne]; rfl)
    have hI : ((r : Int) == (s.size : Int)) = false := by rw [beq_eq_false_iff_ne]; omega
    clear hb hrest hf h3 h4 h5 f0 f1 f2 f3 f4 f5 hne
    go_enter Try.func35, Try.ntmps35
    go_wp2
    go_quiet (fail)
    go_wp2
    go_ret
    exact ⟨ret_bool (by rw [HD.out]), _, rfl⟩
/-- What a bit does to the decoder; the probability's cell is set ahead of it. -/
def BittenD (w : World) (O : Paint) (c a tot : Nat) (q : Addr) (p : Nat) (d : Dec) (x : Ending) (w' : World) : Prop :=
  x = .returned (.int .i64 ((d.bitOf p : Nat) : Int)) ∧ Step [c] (w.setCell q (.int .u16 ((learn p (d.bitOf p) : Nat) : Int))) O w' O ∧ DecAt w' O c a (d.getBit p) tot
set_option maxHeartbeats 400000 in
theorem decbit0 {w : World} {O : Paint} {c a tot : Nat} {d : Dec} {q : Addr} {p : Nat} (h : DecAt w O c a d tot) (hq : w.cell? q = some (.int .u16 (p : Int))) (hf : w.frozen? q = false) (hO : O q.block ≠ c) (h1 : 1 ≤ p) (h2 : p ≤ 2047) (hB : d.code < d.size / 2048 * p) :
    Calls Try.prog 131 #[.pointer (some ⟨a, 0, none⟩), .pointer (some q)] w (BittenD w O c a tot q p d) := by
  obtain ⟨hraw, hfine⟩ := h
  have hb := getBit_raw hfine h1 h2
  rw [if_pos hB] at hb
  have HRAW := Lib.hid hraw
  have HF := Lib.hid (fine_getBit hfine h1 h2)
  have HBE := Lib.hid (show d.getBit p = wide { d with size := d.size / 2048 * p } by unfold Dec.getBit; rw [if_pos hB])
  have HBO := Lib.hid (show d.bitOf p = 0 by unfold Dec.bitOf; rw [if_pos hB])
  have HBD := Lib.hid (fun W => border_any d.size p W hfine.2.1 h2)
  obtain ⟨⟨hc2, hc3, _, _⟩, ⟨hf2, hf3, _⟩, hal, hoa⟩ := hraw.cells
  have HO := Lib.hid hO
  have hne : q.block ≠ a := fun e1 => hO (by rw [e1]; exact hoa)
  generalize d.size / 2048 * p = B at *
  have HB := Lib.hid hb
  have hd : decide (d.code < B) = true := by simpa using hB
  clear hraw hfine hb hoa hO hB
  go_enter Try.func131, Try.ntmps131
  go_wp2_with fail
  refine (isprob_any hq h1 h2).mono ?_
  rintro x w1 ⟨rfl, rfl⟩
  go_wp2_with fail
  go_quiet ((go_at_call 118; exact Calls.quiet_of_same (still (HBD.out _))))
  go_wp2_with fail
  obtain ⟨k1, k2⟩ := (HRAW.out.drewN nq).setSize B
  have hS : Step [c] w O ((w.drewN nq).setCell ⟨a, 3, none⟩ (.int .u32 (B : Int))) O := k2.from_drewN
  obtain ⟨c1, c2⟩ := EncRaw.apart hS HO.out hq hf
  generalize (w.drewN nq).setCell ⟨a, 3, none⟩ (.int .u32 (B : Int)) = W1 at *
  refine (learn_dev c1 c2 h1 h2 (b := 0) (by omega)).mono ?_
  rintro x w2 ⟨rfl, rfl⟩
  have k3 := (k1.other HO.out (.int .u16 ((learn p 0 : Nat) : Int))).drew
  have hS2 := (hS.setCell_both (p := q) (by simpa using HO.out) (.int .u16 ((learn p 0 : Nat) : Int))).drew
  generalize (W1.setCell q (.int .u16 ((learn p 0 : Nat) : Int))).drew = W2 at *
  have K3 := Lib.hid k3
  have HS2 := Lib.hid hS2
  clear k1 k2 k3 hS hS2 c1 c2
  go_wp2_with fail
  refine (decturn K3.out HB.out).mono ?_
  rintro x w3 ⟨rfl, hst, hen⟩
  have HST := Lib.hid hst
  have HEN := Lib.hid hen
  clear hst hen
  go_wp2
  go_ret
  exact ⟨by rw [HBO.out]; rfl, by rw [HBO.out]; exact HS2.out.trans HST.out, by rw [HBE.out]; exact HEN.out, HF.out⟩
set_option maxHeartbeats 400000 in
theorem decbit1 {w : World} {O : Paint} {c a tot : Nat} {d : Dec} {q : Addr} {p : Nat} (h : DecAt w O c a d tot) (hq : w.cell? q = some (.int .u16 (p : Int))) (hf : w.frozen? q = false) (hO : O q.block ≠ c) (h1 : 1 ≤ p) (h2 : p ≤ 2047) (hB : ¬ d.code < d.size / 2048 * p) :
    Calls Try.prog 131 #[.pointer (some ⟨a, 0, none⟩), .pointer (some q)] w (BittenD w O c a tot q p d) := by
  obtain ⟨hraw, hfine⟩ := h
  have hb := getBit_raw hfine h1 h2
  rw [if_neg hB] at hb
  have hbl := bound_lt hfine.1 h2
  have hsz := hfine.2.1
  have hcz := hfine.2.2
  have HRAW := Lib.hid hraw
  have HF := Lib.hid (fine_getBit hfine h1 h2)
  have HBE := Lib.hid (show d.getBit p = wide { d with code := d.code - d.size / 2048 * p, size := d.size - d.size / 2048 * p } by unfold Dec.getBit; rw [if_neg hB])
  have HBO := Lib.hid (show d.bitOf p = 1 by unfold Dec.bitOf; rw [if_neg hB])
  have HBD := Lib.hid (fun W => border_any d.size p W hfine.2.1 h2)
  obtain ⟨⟨hc2, hc3, _, _⟩, ⟨hf2, hf3, _⟩, hal, hoa⟩ := hraw.cells
  have HO := Lib.hid hO
  have hne : q.block ≠ a := fun e1 => hO (by rw [e1]; exact hoa)
  generalize d.size / 2048 * p = B at *
  have HB := Lib.hid hb
  have hd : decide (d.code < B) = false := by simpa using hB
  have g1 : (B : Int) ≤ (d.code : Int) := by omega
  have g2 : (B : Int) < (d.size : Int) := by omega
  have g3 : (d.size : Int) < 4294967296 := by omega
  have g4 : (d.code : Int) < 4294967296 := by omega
  have HC := Lib.hid (show (d.code : Int) - (B : Int) = ((d.code - B : Nat) : Int) by omega)
  have HZ := Lib.hid (show (d.size : Int) - (B : Int) = ((d.size - B : Nat) : Int) by omega)
  clear hraw hfine hb hoa hO hB
  go_enter Try.func131, Try.ntmps131
  go_wp2_with fail
  refine (isprob_any hq h1 h2).mono ?_
  rintro x w1 ⟨rfl, rfl⟩
  go_wp2_with fail
  go_quiet ((go_at_call 118; exact Calls.quiet_of_same (still (HBD.out _))))
  go_wp2_with fail
  rw [HC.out, HZ.out]
  obtain ⟨j1, j2⟩ := (HRAW.out.drewN nq).setCode (d.code - B)
  obtain ⟨k1, k2⟩ := j1.setSize (d.size - B)
  have hS : Step [c] w O (((w.drewN nq).setCell ⟨a, 2, none⟩ (.int .u32 ((d.code - B : Nat) : Int))).setCell ⟨a, 3, none⟩ (.int .u32 ((d.size - B : Nat) : Int))) O := (j2.trans k2).from_drewN
  obtain ⟨c1, c2⟩ := EncRaw.apart hS HO.out hq hf
  generalize ((w.drewN nq).setCell ⟨a, 2, none⟩ (.int .u32 ((d.code - B : Nat) : Int))).setCell ⟨a, 3, none⟩ (.int .u32 ((d.size - B : Nat) : Int)) = W1 at *
  refine (learn_dev c1 c2 h1 h2 (b := 1) (by omega)).mono ?_
  rintro x w2 ⟨rfl, rfl⟩
  have k3 := (k1.other HO.out (.int .u16 ((learn p 1 : Nat) : Int))).drew
  have hS2 := (hS.setCell_both (p := q) (by simpa using HO.out) (.int .u16 ((learn p 1 : Nat) : Int))).drew
  generalize (W1.setCell q (.int .u16 ((learn p 1 : Nat) : Int))).drew = W2 at *
  have K3 := Lib.hid k3
  have HS2 := Lib.hid hS2
  clear k1 k2 k3 hS hS2 c1 c2 j1 j2
  go_wp2_with fail
  refine (decturn K3.out HB.out).mono ?_
  rintro x w3 ⟨rfl, hst, hen⟩
  have HST := Lib.hid hst
  have HEN := Lib.hid hen
  clear hst hen
  go_wp2
  go_ret
  exact ⟨by rw [HBO.out]; rfl, by rw [HBO.out]; exact HS2.out.trans HST.out, by rw [HBE.out]; exact HEN.out, HF.out⟩
theorem decbit {w : World} {O : Paint} {c a tot : Nat} {d : Dec} {q : Addr} {p : Nat} (h : DecAt w O c a d tot) (hq : w.cell? q = some (.int .u16 (p : Int))) (hf : w.frozen? q = false) (hO : O q.block ≠ c) (h1 : 1 ≤ p) (h2 : p ≤ 2047) :
    Calls Try.prog 131 #[.pointer (some ⟨a, 0, none⟩), .pointer (some q)] w (BittenD w O c a tot q p d) := by
  by_cases hB : d.code < d.size / 2048 * p
  · exact decbit0 h hq hf hO h1 h2 hB
  · exact decbit1 h hq hf hO h1 h2 hB
end Go.Proofs.Ytakbocaemlgbaaa.Rc
