/-
  Contracts of the developers' encoder of layer 3, more: Direct, Part, End, NewEncoder; and of none.
-/
import Derived.Test.YthejbnodalnnpaaRcEncB
import Derived.Laws.BitsAllLaws
import Derived.BigRegion
namespace Go.Proofs.Ythejbnodalnnpaa.Rc
open Go.RowKit
theorem and1_u32 (v i : Nat) (hv : v < 4294967296) : bits .and .u32 ((v : Int) / 2 ^ i) 1 = ((bitAt v i : Nat) : Int) := by
  have hle : v / 2 ^ i < 4294967296 := Nat.lt_of_le_of_lt (Nat.div_le_self _ _) hv
  have e := u32_and_nat (v / 2 ^ i) 1 hle (by omega)
  rw [nat_mask1] at e
  have h2 : ((v : Int) / 2 ^ i) = ((v / 2 ^ i : Nat) : Int) := by simp
  rw [h2]
  exact e
/-- An encoder that was written, and nothing else. -/
def Went (w : World) (O : Paint) (c a : Nat) (e : Enc) (x : Ending) (w' : World) : Prop := x = .returned (.tuple #[]) ∧ ∃ O', Step [c] w O w' O' ∧ EncAt w' O' c a e
def Directing (w : World) (O : Paint) (c a : Nat) (e : Enc) (wr : World) : Prop := ∃ O', Step [c] w O wr O' ∧ EncAt wr O' c a e
/-- The text of a row of bytes. -/
theorem _root_.Go.Proofs.Ythejbnodalnnpaa.Held.text {w : World} {O : Paint} {c : Nat} {g n cap : Nat} {l : List UInt8} (h : Held w O c 5 (.slice (some ⟨g, 0, none⟩) n cap) (l.map byte)) (hl : l.length = n) : (convert 26 9 (.slice (some ⟨g, 0, none⟩) n cap)).run Try.prog w = .ok (.string ⟨l.toArray⟩) w := by
  subst hl
  exact run_convert_bytes_back w 26 9 5 ⟨g, 0, none⟩ cap l Try.underlying26 Try.underlying5 Try.underlying9 (fun j hj => by
    have hplain : (⟨g, 0, none⟩ : Addr).add j = ⟨g, j, none⟩ := by unfold Addr.add; split <;> simp_all
    rw [hplain]; exact h.cell (by simp [hj, byte]))
theorem istotal_any (c : Nat) (h1 : 1 ≤ c) (h2 : c ≤ 65536) (w : World) : Calls Try.prog 90 #[.int .u32 (c : Int)] w fun x w' => x = .returned (.bool true) ∧ w = w' := by
  have g1 : decide ((1 : Int) ≤ (c : Int)) = true := by simp; omega
  have g2 : decide ((c : Int) ≤ 65536) = true := by simp; omega
  go_enter Try.func90, Try.ntmps90
  go_wp2
  go_ret
  exact ⟨ret_bool (by simp), rfl⟩
theorem ispart_any (a b c : Nat) (h1 : 1 ≤ b) (h2 : a + b ≤ c) (h3 : c ≤ 65536) (w : World) : Calls Try.prog 85 #[.int .u32 (a : Int), .int .u32 (b : Int), .int .u32 (c : Int)] w fun x w' => x = .returned (.bool true) ∧ w = w' := by
  have g1 : decide ((1 : Int) ≤ (b : Int)) = true := by simp; omega
  have g2 : decide (b ≤ c) = true := by simp; omega
  have g3 : decide ((a : Int) ≤ (c : Int) - (b : Int)) = true := by simp; omega
  go_enter Try.func85, Try.ntmps85
  go_wp2_with fail
  refine (istotal_any c (by omega) h3 _).mono ?_
  rintro x w1 ⟨rfl, rfl⟩
  go_wp2
  go_ret
  exact ⟨ret_bool (by simp), rfl⟩
set_option maxHeartbeats 400000 in
theorem encpart {w : World} {O : Paint} {z t : Nat} {e : Enc} (h : EncAt w O z t e) (ht : e.turns ≤ 999000) (a b c : Nat) (h1 : 1 ≤ b) (h2 : a + b ≤ c) (h3 : c ≤ 65536) :
    Calls Try.prog 61 #[.pointer (some ⟨t, 0, none⟩), .int .u32 (a : Int), .int .u32 (b : Int), .int .u32 (c : Int)] w (Went w O z t (e.part a b c)) := by
  obtain ⟨hraw, hfine⟩ := h
  obtain ⟨hc2, hf2, hal, hoa⟩ := hraw.cells
  have hsz : e.size < 4294967296 := hfine.2.1
  have hle : e.size / c * (a + b) ≤ e.size := Nat.le_trans (Nat.mul_le_mul_left _ h2) (Nat.div_mul_le_self _ _)
  rw [Nat.mul_add] at hle
  have hpos : 1 ≤ e.size / c * b := (part_raw hfine h1 h2 h3).1
  have HRAW := Lib.hid hraw
  have HB := Lib.hid (part_raw hfine h1 h2 h3)
  have HF := Lib.hid (fine_part hfine h1 h2 h3)
  have HBE := Lib.hid (show e.part a b c = widen ⟨e.low + e.size / c * a, e.size / c * b, e.turns⟩ from rfl)
  have HL : Hid (e.low + e.size / c * a < 256 ^ (e.turns + 4)) := Lib.hid (by have := hfine.2.2; omega)
  have hdiv : ((e.size : Int) / (c : Int)) = ((e.size / c : Nat) : Int) := by simp
  have HA := Lib.hid (show (e.size : Int) / (c : Int) * (a : Int) = ((e.size / c * a : Nat) : Int) by simp)
  have HBm := Lib.hid (show (e.size : Int) / (c : Int) * (b : Int) = ((e.size / c * b : Nat) : Int) by simp)
  have hc1 : (1 : Int) ≤ (c : Int) := by omega
  have hcz : ((c : Int) == 0) = false := by rw [beq_eq_false_iff_ne]; omega
  have hq2 : (0 : Int) ≤ (e.size : Int) / (c : Int) := by rw [hdiv]; exact Int.natCast_nonneg _
  have hq3 : (e.size : Int) / (c : Int) < 4294967296 := by rw [hdiv]; exact Int.ofNat_lt.2 (Nat.lt_of_le_of_lt (Nat.div_le_self _ c) hsz)
  have hm0 : (0 : Int) ≤ (e.size : Int) / (c : Int) * (a : Int) := by rw [HA.out]; omega
  have hm1 : (e.size : Int) / (c : Int) * (a : Int) < 4294967296 := by rw [HA.out]; omega
  have hm2 : (0 : Int) ≤ (e.size : Int) / (c : Int) * (b : Int) := by rw [HBm.out]; omega
  have hm3 : (e.size : Int) / (c : Int) * (b : Int) < 4294967296 := by rw [HBm.out]; omega
  have HAB := Lib.hid (show e.size / c * a < 4294967296 by omega)
  clear hraw hfine hoa hdiv hle hpos
  go_enter Try.func61, Try.ntmps61
  go_wp2_with fail
  refine (ispart_any a b c h1 h2 h3 _).mono ?_
  rintro x w1 ⟨rfl, rfl⟩
  go_wp2_with fail
  rw [HA.out]
  refine (raise_any HRAW.out (by omega) _ HAB.out HL.out).mono ?_
  rintro x w1 ⟨rfl, hS1, hE1⟩
  obtain ⟨m2, mf2, mal, moa⟩ := hE1.cells
  have HS1 := Lib.hid hS1
  have HE1 := Lib.hid hE1
  clear hS1 hE1 moa
  go_wp2_with fail
  rw [HBm.out]
  obtain ⟨k1, k2⟩ := HE1.out.width (e.size / c * b)
  have K1 := Lib.hid k1
  have K2 := Lib.hid k2
  clear k1 k2 m2 mf2 hc2 hf2
  generalize w1.setCell ⟨t, 2, none⟩ (.int .u32 ((e.size / c * b : Nat) : Int)) = W1 at *
  refine (turn_any K1.out HB.out (by simp only; omega)).mono ?_
  rintro x w3 ⟨rfl, O3, hst, hen⟩
  have HST := Lib.hid hst
  have HEN := Lib.hid hen
  clear hst hen
  go_wp2
  first | go_end0 | (simp only [Exit.inBlock, Exit.then]; refine bodyPost_ret (results_none rfl _ _ _) rfl ?_) | refine bodyPost_ret (results_none rfl _ _ _) rfl ?_
  exact ⟨rfl, O3, (HS1.out.trans K2.out).trans HST.out, by rw [HBE.out]; exact HEN.out, HF.out⟩
theorem new_enc (w : World) (O : Paint) (c : Nat) : Calls Try.prog 17 #[] w fun x w' => ∃ a, x = .returned (.pointer (some ⟨a, 0, none⟩)) ∧ w.heap.size ≤ a ∧ ∃ O', Step [] w O w' O' ∧ EncAt w' O' c a Enc.start := by
  go_enter Try.func17, Try.ntmps17
  go_wp2
  go_ret
  refine ⟨_, rfl, by omega, Step.paint O w c, (((Step.refl [] w O).alloc _).alloc _).repaint c, ⟨w.heap.size, 1, ⟨?_, Step.paint_new (by omega)⟩, ⟨?_, fun k hk => Step.paint_new (by simp [Value.ownBlock] at hk; omega)⟩⟩, fine_start⟩
  · have := heap_alloc_new (w.alloc (.cells #[.int .u8 0] 5)) (.cells #[.slice (some ⟨w.heap.size, 0, none⟩) 1 1, .int .u32 0, .int .u32 4294967295] 115)
    rw [World.size_alloc] at this
    exact this
  · refine ⟨rfl, .inr ⟨w.heap.size, 1, #[.int .u8 0], rfl, Nat.zero_le _, ?_, Nat.le_refl _, by unfold maxLen; omega, rfl, rfl⟩⟩
    rw [Below.heap_alloc _ _ _ (by simp)]
    exact heap_alloc_new w _
set_option maxHeartbeats 400000 in
theorem enc_end {w : World} {O : Paint} {c a : Nat} {e : Enc} (h : EncAt w O c a e) (ht : e.turns ≤ 1000000) :
    Calls Try.prog 27 #[.pointer (some ⟨a, 0, none⟩)] w fun x w' => x = .returned (.string ⟨e.bytes.toArray⟩) ∧ Below w.heap.size w w' := by
  obtain ⟨⟨g, cap, hb, hr⟩, hfine⟩ := h
  obtain ⟨h0, h1, h2, f0, f1, f2⟩ := three hb.1
  have hlo : e.low % 4294967296 < 4294967296 := by omega
  have HBY : Hid ((⟨(0 :: be e.turns (e.low / 4294967296)).toArray⟩ : ByteArray) ++ ⟨(be 4 (e.low % 4294967296)).toArray⟩ = ⟨e.bytes.toArray⟩) := Lib.hid (by
    apply ByteArray.ext
    apply Array.toList_inj.1
    have h4 := be_split e.turns 4 e.low
    have hm : be 4 (e.low % 4294967296) = be 4 e.low := by
      simp only [be, List.nil_append, List.cons_append, List.cons.injEq, and_true]
      refine ⟨?_, ?_, ?_, ?_⟩ <;> (apply UInt8.toNat_inj.1; simp <;> omega)
    simp [Enc.bytes, h4, hm])
  generalize hLL : e.low % 4294967296 = L at *
  have HR := Lib.hid hr
  have HB := Lib.hid hb
  have hle := hb.lt
  have hlen := be_length e.turns (e.low / 4294967296)
  generalize be e.turns (e.low / 4294967296) = l at *
  clear hLL hr hb hfine
  go_enter Try.func27, Try.ntmps27
  go_wp2
  go_region
  go_wp2
  have hS : Step [] w O (w.alloc (.cells #[.int .u8 ((L : Int) / 16777216), .int .u8 ((L : Int) / 65536 % 256), .int .u8 ((L : Int) / 256 % 256), .int .u8 ((L : Int) % 256)] 5)).drew O := ((Step.refl [] w O).alloc _).drew
  have h4 : Held (w.alloc (.cells #[.int .u8 ((L : Int) / 16777216), .int .u8 ((L : Int) / 65536 % 256), .int .u8 ((L : Int) / 256 % 256), .int .u8 ((L : Int) % 256)] 5)).drew (fun _ => 0) 0 5 (.slice (some ⟨w.heap.size, 0, none⟩) 4 4) ((be 4 L).map byte) := by
    refine ⟨⟨rfl, .inr ⟨w.heap.size, 4, _, rfl, Nat.zero_le _, heap_alloc_new w _, Nat.le_refl _, by unfold maxLen; omega, rfl, ?_⟩⟩, fun _ _ => rfl⟩
    simp only [be, byte, List.nil_append, List.cons_append, List.map_cons, List.map_nil]
    simp
    omega
  have hbl : Below w.heap.size w (w.alloc (.cells #[.int .u8 ((L : Int) / 16777216), .int .u8 ((L : Int) / 65536 % 256), .int .u8 ((L : Int) / 256 % 256), .int .u8 ((L : Int) % 256)] 5)).drew := (Frame.below (B := w.heap.size) (own := fun _ => False) ((Frame.refl _ w).alloc _).drew (Nat.le_refl _) (fun _ _ h => h))
  have hr2 := HR.out.step hS (by simp)
  have hb2 := HB.out.step hS (by simp)
  generalize (w.alloc (.cells #[.int .u8 ((L : Int) / 16777216), .int .u8 ((L : Int) / 65536 % 256), .int .u8 ((L : Int) / 256 % 256), .int .u8 ((L : Int) % 256)] 5)).drew = W2 at *
  have t1 := fun n => (hr2.step ((Step.refl [] W2 O).drewN n) (by simp)).text (by simp [hlen])
  have t2 := fun n => (h4.step ((Step.refl [] W2 _).drewN n) (by simp)).text (be_length 4 L)
  obtain ⟨k0, _, _, _, _, _⟩ := three hb2.1
  have HBel := Lib.hid hbl
  clear hS h4 hbl hr2 hb2 h0 h1 h2 f0 f1 f2
  obtain ⟨U, hU⟩ : ∃ U : ByteArray, U = ⟨(0 :: l).toArray⟩ := ⟨_, rfl⟩
  obtain ⟨V, hV⟩ : ∃ V : ByteArray, V = ⟨(be 4 L).toArray⟩ := ⟨_, rfl⟩
  rw [← hU] at t1 HBY
  rw [← hV] at t2 HBY
  have hUs : U.size ≤ 1000004 := by rw [hU]; show (0 :: l).toArray.size ≤ _; simp; omega
  have hVs : V.size ≤ 4 := by rw [hV]; exact Nat.le_refl _
  clear hU hV hlen
  go_quiet (fail)
  go_wp2
  go_ret
  exact ⟨by rw [← HBY.out]; rfl, HBel.out.os, HBel.out.tape, HBel.out.output, HBel.out.size, HBel.out.block⟩
theorem nil_part (a b c : Int) (w : World) : Calls Try.prog 61 #[.pointer none, .int .u32 a, .int .u32 b, .int .u32 c] w fun x w' => x = .returned (.tuple #[]) ∧ w = w' := by
  go_enter Try.func61, Try.ntmps61
  go_wp2
  first | go_end0 | (simp only [Exit.inBlock, Exit.then]; refine bodyPost_ret (results_none rfl _ _ _) rfl ?_) | refine bodyPost_ret (results_none rfl _ _ _) rfl ?_
  exact ⟨rfl, rfl⟩
theorem nil_end (w : World) : Calls Try.prog 27 #[.pointer none] w fun x w' => x = .returned (.string ⟨#[]⟩) ∧ w = w' := by
  go_enter Try.func27, Try.ntmps27
  go_wp2
  go_ret
  exact ⟨rfl, rfl⟩
end Go.Proofs.Ythejbnodalnnpaa.Rc
