/-
  Contracts of the developers' encoder of layer 3, more: Direct, Part, End, NewEncoder; and of none.
-/
import Derived.Test.YtakbocaemlgbaaaRcEncB
import Derived.Laws.BitsAllLaws
import Derived.BigRegion
namespace Go.Proofs.Ytakbocaemlgbaaa.Rc
open Go.RowKit
theorem and1_u32 (v i : Nat) (hv : v < 4294967296) : bits .and .u32 ((v : Int) / 2 ^ i) 1 = ((bitAt v i : Nat) : Int) := by
  have hle : v / 2 ^ i < 4294967296 := Nat.lt_of_le_of_lt (Nat.div_le_self _ _) hv
  have e := u32_and_nat (v / 2 ^ i) 1 hle (by omega)
  rw [nat_mask1] at e
  have h2 : ((v : Int) / 2 ^ i) = ((v / 2 ^ i : Nat) : Int) := by simp
  rw [h2]
  exact e
/-- An encoder that was written, and nothing else. -/
def Went (w : World) (O : Paint) (c a : Nat) (e : Enc) (x : Ending) (w' : World) : Prop := x = .returned (.tuple #[]) ∧ ∃ O', Step [c] w O w' O' ∧ EncAt w' O' c a e
def Directing (w : World) (O : Paint) (c a : Nat) (e : Enc) (wr : World) : Prop := ∃ O', Step [c] w O wr O' ∧ EncAt wr O' c a e
set_option maxHeartbeats 400000 in
theorem encdirect {w : World} {O : Paint} {c a : Nat} {e : Enc} (h : EncAt w O c a e) (ht : e.turns ≤ 999000) (v n : Nat) (hv : v < 4294967296) (hn : n ≤ 32) :
    Calls Try.prog 113 #[.pointer (some ⟨a, 0, none⟩), .int .u32 (v : Int), .int .i64 (n : Int)] w (Went w O c a (directN v n e n)) := by
  have H0 := Lib.hid h
  have HF := Lib.hid (fine_directN h.2 v n)
  have HT := Lib.hid (directN_turns e v n)
  clear h
  go_enter Try.func113, Try.ntmps113
  go_wp2
  go_loopw [6, 14] (fun _ i wr => ∃ k : Nat, k ≤ n ∧ i = .int .i64 k ∧ Directing w O c a (directN v n e k) wr) (fun _ i _ => n - (intOf i).toNat)
  case atStart => exact ⟨0, by omega, rfl, O, Step.refl _ _ _, H0.out⟩
  case round =>
    clear H0
    obtain ⟨k, hk, rfl, O1, hst, hen⟩ := hrel
    by_cases hlt : k < n
    · have hT := HT.out k
      have hstep : directN v n e (k + 1) = (directN v n e k).direct (bitAt v (n - 1 - k)) := rfl
      have HSTEP := Lib.hid hstep
      clear hstep
      generalize directN v n e k = E at *
      obtain ⟨hraw, hfine⟩ := hen
      obtain ⟨hc2, hf2, hal, hoa⟩ := hraw.cells
      have HRAW := Lib.hid hraw
      have HFI := Lib.hid hfine
      have HST := Lib.hid hst
      have hsz : E.size < 4294967296 := hfine.2.1
      clear hraw hfine hoa hst
      have hbit := and1_u32 v (n - 1 - k) hv
      have hb1 := bitAt_le v (n - 1 - k)
      have HRB := Lib.hid (direct_raw HFI.out (bitAt v (n - 1 - k)))
      have HDI := Lib.hid (show E.direct (bitAt v (n - 1 - k)) = widen ⟨if bitAt v (n - 1 - k) = 1 then E.low + E.size / 2 else E.low, E.size / 2, E.turns⟩ from rfl)
      have HFD := Lib.hid (fine_direct HFI.out (bitAt v (n - 1 - k)))
      have hdiv : ((E.size : Int) / 2) = ((E.size / 2 : Nat) : Int) := by simp
      have HDIV := Lib.hid hdiv
      have HL : Hid (E.low + E.size / 2 < 256 ^ (E.turns + 4)) := Lib.hid (by have := HFI.out.2.2; have := HFI.out.1; omega)
      obtain ⟨k1, k2⟩ := HRAW.out.width (E.size / 2)
      have hWW : wr.setCell ⟨a, 2, none⟩ (.int .u32 ((E.size / 2 : Nat) : Int)) = wr.setCell ⟨a, 2, none⟩ (.int .u32 ((E.size : Int) / 2)) := by rw [hdiv]
      rw [hWW] at k1 k2
      have K1 := Lib.hid k1
      have K2 := Lib.hid k2
      clear hdiv hWW k1 k2
      generalize bitAt v (n - 1 - k) = b at *
      rcases (show b = 0 ∨ b = 1 by omega) with h0 | h0
      · subst h0
        rw [if_neg (by omega)] at HRB HDI
        go_wp2_with fail
        clear hbit
        refine (turn_any K1.out HRB.out (by simp only; omega)).mono ?_
        rintro x w3 ⟨rfl, O3, hst3, hen3⟩
        have HST3 := Lib.hid hst3
        have HEN3 := Lib.hid hen3
        clear hst3 hen3
        go_wp2
        go_roundw
        case rel => exact ⟨k + 1, by omega, by go_num, O3, (HST.out.trans K2.out).trans HST3.out, by rw [HSTEP.out, HDI.out]; exact HEN3.out, by rw [HSTEP.out]; exact HFD.out⟩
        case measure => simp [intOf]; omega
      · subst h0
        rw [if_pos rfl] at HRB HDI
        go_wp2_with fail
        clear hbit
        generalize wr.setCell ⟨a, 2, none⟩ (.int .u32 ((E.size : Int) / 2)) = W1 at *
        rw [HDIV.out]
        refine (raise_any K1.out (by simp only; omega) (E.size / 2) (by omega) HL.out).mono ?_
        rintro x w2 ⟨rfl, hst2, hen2⟩
        have HST2 := Lib.hid hst2
        have HEN2 := Lib.hid hen2
        clear hst2 hen2
        go_wp2_with fail
        refine (turn_any HEN2.out HRB.out (by simp only; omega)).mono ?_
        rintro x w3 ⟨rfl, O3, hst3, hen3⟩
        have HST3 := Lib.hid hst3
        have HEN3 := Lib.hid hen3
        clear hst3 hen3
        go_wp2
        go_roundw
        case rel => exact ⟨k + 1, by omega, by go_num, O3, ((HST.out.trans K2.out).trans HST2.out).trans HST3.out, by rw [HSTEP.out, HDI.out]; exact HEN3.out, by rw [HSTEP.out]; exact HFD.out⟩
        case measure => simp [intOf]; omega
    · obtain rfl : k = n := by omega
      have HST := Lib.hid hst
      have HEN := Lib.hid hen
      clear hst hen
      go_wp2
      first | go_end0 | (simp only [Exit.inBlock, Exit.then]; refine bodyPost_ret (results_none rfl _ _ _) rfl ?_) | refine bodyPost_ret (results_none rfl _ _ _) rfl ?_
      exact ⟨rfl, O1, HST.out, HEN.out⟩
/-- The text of a row of bytes. -/
theorem _root_.Go.Proofs.Ytakbocaemlgbaaa.Held.text {w : World} {O : Paint} {c : Nat} {g n cap : Nat} {l : List UInt8} (h : Held w O c 5 (.slice (some ⟨g, 0, none⟩) n cap) (l.map byte)) (hl : l.length = n) : (convert 101 9 (.slice (some ⟨g, 0, none⟩) n cap)).run Try.prog w = .ok (.string ⟨l.toArray⟩) w := by
  subst hl
  exact run_convert_bytes_back w 101 9 5 ⟨g, 0, none⟩ cap l Try.underlying101 Try.underlying5 Try.underlying9 (fun j hj => by
    have hplain : (⟨g, 0, none⟩ : Addr).add j = ⟨g, j, none⟩ := by unfold Addr.add; split <;> simp_all
    rw [hplain]; exact h.cell (by simp [hj, byte]))
theorem new_enc (w : World) (O : Paint) (c : Nat) : Calls Try.prog 29 #[] w fun x w' => ∃ a, x = .returned (.pointer (some ⟨a, 0, none⟩)) ∧ w.heap.size ≤ a ∧ ∃ O', Step [] w O w' O' ∧ EncAt w' O' c a Enc.start := by
  go_enter Try.func29, Try.ntmps29
  go_wp2
  go_ret
  refine ⟨_, rfl, by omega, Step.paint O w c, (((Step.refl [] w O).alloc _).alloc _).repaint c, ⟨w.heap.size, 1, ⟨?_, Step.paint_new (by omega)⟩, ⟨?_, fun k hk => Step.paint_new (by simp [Value.ownBlock] at hk; omega)⟩⟩, fine_start⟩
  · have := heap_alloc_new (w.alloc (.cells #[.int .u8 0] 5)) (.cells #[.slice (some ⟨w.heap.size, 0, none⟩) 1 1, .int .u32 0, .int .u32 4294967295] 103)
    rw [World.size_alloc] at this
    exact this
  · refine ⟨rfl, .inr ⟨w.heap.size, 1, #[.int .u8 0], rfl, Nat.zero_le _, ?_, Nat.le_refl _, by unfold maxLen; omega, rfl, rfl⟩⟩
    rw [Below.heap_alloc _ _ _ (by simp)]
    exact heap_alloc_new w _
set_option maxHeartbeats 400000 in
theorem enc_end {w : World} {O : Paint} {c a : Nat} {e : Enc} (h : EncAt w O c a e) (ht : e.turns ≤ 1000000) :
    Calls Try.prog 33 #[.pointer (some ⟨a, 0, none⟩)] w fun x w' => x = .returned (.string ⟨e.bytes.toArray⟩) ∧ Below w.heap.size w w' := by
  obtain ⟨⟨g, cap, hb, hr⟩, hfine⟩ := h
  obtain ⟨h0, h1, h2, f0, f1, f2⟩ := three hb.1
  have hlo : e.low % 4294967296 < 4294967296 := by omega
  have HBY : Hid ((⟨(0 :: be e.turns (e.low / 4294967296)).toArray⟩ : ByteArray) ++ ⟨(be 4 (e.low % 4294967296)).toArray⟩ = ⟨e.bytes.toArray⟩) := Lib.hid (by
    apply ByteArray.ext
    apply Array.toList_inj.1
    have h4 := be_split e.turns 4 e.low
    have hm : be 4 (e.low % 4294967296) = be 4 e.low := by
      simp only [be, List.nil_append, List.cons_append, List.cons.injEq, and_true]
      refine ⟨?_, ?_, ?_, ?_⟩ <;> (apply UInt8.toNat_inj.1; simp <;> omega)
    simp [Enc.bytes, h4, hm])
  generalize hLL : e.low % 4294967296 = L at *
  have HR := Lib.hid hr
  have HB := Lib.hid hb
  have hle := hb.lt
  have hlen := be_length e.turns (e.low / 4294967296)
  generalize be e.turns (e.low / 4294967296) = l at *
  clear hLL hr hb hfine
  go_enter Try.func33, Try.ntmps33
  go_wp2
  go_region
  go_wp2
  have hS : Step [] w O (w.alloc (.cells #[.int .u8 ((L : Int) / 16777216), .int .u8 ((L : Int) / 65536 % 256), .int .u8 ((L : Int) / 256 % 256), .int .u8 ((L : Int) % 256)] 5)).drew O := ((Step.refl [] w O).alloc _).drew
  have h4 : Held (w.alloc (.cells #[.int .u8 ((L : Int) / 16777216), .int .u8 ((L : Int) / 65536 % 256), .int .u8 ((L : Int) / 256 % 256), .int .u8 ((L : Int) % 256)] 5)).drew (fun _ => 0) 0 5 (.slice (some ⟨w.heap.size, 0, none⟩) 4 4) ((be 4 L).map byte) := by
    refine ⟨⟨rfl, .inr ⟨w.heap.size, 4, _, rfl, Nat.zero_le _, heap_alloc_new w _, Nat.le_refl _, by unfold maxLen; omega, rfl, ?_⟩⟩, fun _ _ => rfl⟩
    simp only [be, byte, List.nil_append, List.cons_append, List.map_cons, List.map_nil]
    simp
    omega
  have hbl : Below w.heap.size w (w.alloc (.cells #[.int .u8 ((L : Int) / 16777216), .int .u8 ((L : Int) / 65536 % 256), .int .u8 ((L : Int) / 256 % 256), .int .u8 ((L : Int) % 256)] 5)).drew := (Frame.below (B := w.heap.size) (own := fun _ => False) ((Frame.refl _ w).alloc _).drew (Nat.le_refl _) (fun _ _ h => h))
  have hr2 := HR.out.step hS (by simp)
  have hb2 := HB.out.step hS (by simp)
  generalize (w.alloc (.cells #[.int .u8 ((L : Int) / 16777216), .int .u8 ((L : Int) / 65536 % 256), .int .u8 ((L : Int) / 256 % 256), .int .u8 ((L : Int) % 256)] 5)).drew = W2 at *
  have t1 := fun n => (hr2.step ((Step.refl [] W2 O).drewN n) (by simp)).text (by simp [hlen])
  have t2 := fun n => (h4.step ((Step.refl [] W2 _).drewN n) (by simp)).text (be_length 4 L)
  obtain ⟨k0, _, _, _, _, _⟩ := three hb2.1
  have HBel := Lib.hid hbl
  clear hS h4 hbl hr2 hb2 h0 h1 h2 f0 f1 f2
  obtain ⟨U, hU⟩ : ∃ U : ByteArray, U = ⟨(0 :: l).toArray⟩ := ⟨_, rfl⟩
  obtain ⟨V, hV⟩ : ∃ V : ByteArray, V = ⟨(be 4 L).toArray⟩ := ⟨_, rfl⟩
  rw [← hU] at t1 HBY
  rw [← hV] at t2 HBY
  have hUs : U.size ≤ 1000004 := by rw [hU]; show (0 :: l).toArray.size ≤ _; simp; omega
  have hVs : V.size ≤ 4 := by rw [hV]; exact Nat.le_refl _
  clear hU hV hlen
  go_quiet (fail)
  go_wp2
  go_ret
  exact ⟨by rw [← HBY.out]; rfl, HBel.out.os, HBel.out.tape, HBel.out.output, HBel.out.size, HBel.out.block⟩
theorem nil_bit (q : Addr) (b : Int) (w : World) : Calls Try.prog 112 #[.pointer none, .pointer (some q), .int .i64 b] w fun x w' => x = .returned (.tuple #[]) ∧ w = w' := by
  go_enter Try.func112, Try.ntmps112
  go_wp2
  first | go_end0 | (simp only [Exit.inBlock, Exit.then]; refine bodyPost_ret (results_none rfl _ _ _) rfl ?_) | refine bodyPost_ret (results_none rfl _ _ _) rfl ?_
  exact ⟨rfl, rfl⟩
theorem nil_direct (v n : Int) (w : World) : Calls Try.prog 113 #[.pointer none, .int .u32 v, .int .i64 n] w fun x w' => x = .returned (.tuple #[]) ∧ w = w' := by
  go_enter Try.func113, Try.ntmps113
  go_wp2
  first | go_end0 | (simp only [Exit.inBlock, Exit.then]; refine bodyPost_ret (results_none rfl _ _ _) rfl ?_) | refine bodyPost_ret (results_none rfl _ _ _) rfl ?_
  exact ⟨rfl, rfl⟩
theorem nil_end (w : World) : Calls Try.prog 33 #[.pointer none] w fun x w' => x = .returned (.string ⟨#[]⟩) ∧ w = w' := by
  go_enter Try.func33, Try.ntmps33
  go_wp2
  go_ret
  exact ⟨rfl, rfl⟩
end Go.Proofs.Ytakbocaemlgbaaa.Rc
