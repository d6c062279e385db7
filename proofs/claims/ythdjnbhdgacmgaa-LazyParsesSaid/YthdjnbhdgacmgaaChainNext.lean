/-
  Package chain: the contract of Next.
-/
import Derived.Test.YthdjnbhdgacmgaaChainLonger
namespace Go.Proofs.Ythdjnbhdgacmgaa.Ch
open Go.RowKit Go.Maps
open Mt
/-- What is found at p. -/
def foundL (s : ByteArray) (window cut : Int) (p : Nat) : List (Nat × Nat) := refL (bt s) p (min (s.size - p) 273) (decide (p + 3 ≤ s.size)) window cut p 0 0
theorem foundL_more {s : ByteArray} {window cut : Int} {p : Nat} (h : p + 3 ≤ s.size) : devL (bt s) p (min (s.size - p) 273) window cut.toNat (prevF (bt s) p p) 0 = foundL s window cut p := by
  unfold foundL
  rw [decide_eq_true h, ← dev_ref (bt s) p _ window cut p 0 0 (Nat.le_refl _) (Nat.zero_le _)]
  simp
theorem foundL_none {s : ByteArray} {window cut : Int} {p : Nat} (h : ¬ p + 3 ≤ s.size) : foundL s window cut p = [] := by
  unfold foundL
  rw [decide_eq_false h]
  exact refL_no _ _ _ _ _ _ _ _
/-- What Next leaves. -/
def NextTo (w : World) (O : Paint) (c a : Nat) (s : ByteArray) (window cut : Int) (p p' B : Nat) (v : Value) (x : Ending) (w' : World) : Prop :=
  ∃ v', x = .returned v' ∧ Founds 145 w w' v' (foundL s window cut p) ∧ ∃ xs' D', Step [c] w O w' O ∧ FinAt w' O c a s window cut p' p' B v xs' D'
section
variable {w w' : World} {O O' : Paint} {c a : Nat} {s : ByteArray} {window cut : Int} {p r B : Nat} {v : Value} {xs : List Int} {D : Dm}
theorem next_end (h : FinAt w O c a s window cut p p B v xs D) (hp : p = s.size) :
    Calls Try.prog 75 #[.pointer (some ⟨a, 0, none⟩)] w (NextTo w O c a s window cut p p B v) := by
  obtain ⟨h0, h1, h2, h3, h4, h5⟩ := h.cells
  have HLF := Lib.hid (left_raw h0 h3 h.place h.small)
  have HF := Lib.hid h
  have hd : (((s.size : Int) - (p : Int)) == 0) = true := by rw [beq_iff_eq]; omega
  have HFL := Lib.hid (foundL_none (window := window) (cut := cut) (show ¬ p + 3 ≤ s.size by omega))
  clear h h0 h1 h2 h3 h4 h5 hp
  go_enter Try.func75, Try.ntmps75
  go_wp2_with fail
  refine HLF.out.mono ?_
  rintro x w1 ⟨rfl, n1, rfl⟩
  go_wp2_with fail
  go_ret
  exact ⟨_, rfl, by rw [HFL.out]; exact Founds.nil _ _ _, _, _, (Step.refl _ _ _).drewN n1, HF.out.drewN n1⟩
set_option maxHeartbeats 1000000 in
theorem next_last (h : FinAt w O c a s window cut p p B v xs D) (hp : p < s.size) (hp3 : ¬ p + 3 ≤ s.size) :
    Calls Try.prog 75 #[.pointer (some ⟨a, 0, none⟩)] w (NextTo w O c a s window cut p (p + 1) B v) := by
  have HLF : Hid (∀ n, Calls Try.prog 101 #[.pointer (some ⟨a, 0, none⟩)] (w.drewN n) fun x w' => x = .returned (.int .i64 ((s.size : Int) - p)) ∧ ∃ m, w' = (w.drewN n).drewN m) := Lib.hid fun n => left_raw (h.drewN n).cells.1 (h.drewN n).cells.2.2.2.1 h.place h.small
  have HF := Lib.hid h
  have hd : (((s.size : Int) - (p : Int)) == 0) = false := by rw [beq_eq_false_iff_ne]; omega
  have hd3 : decide (3 ≤ (s.size : Int) - (p : Int)) = false := by simp; omega
  have HFL := Lib.hid (foundL_none (window := window) (cut := cut) hp3)
  have hsm := h.small
  have hal := h.blk.lt
  clear h
  go_enter Try.func75, Try.ntmps75
  go_wp2_with fail
  refine (HLF.out 0).mono ?_
  rintro x w1 ⟨rfl, n1, rfl⟩
  go_wp2_with fail
  refine (HLF.out n1).mono ?_
  rintro x w1 ⟨rfl, n2, rfl⟩
  have HF2 := Lib.hid ((HF.out.drewN n1).drewN n2)
  have HS2 : Hid (Step [c] w O ((w.drewN n1).drewN n2) O) := Lib.hid (((Step.refl _ _ _).drewN n1).drewN n2)
  generalize (w.drewN n1).drewN n2 = W at *
  obtain ⟨h0, h1, h2, h3, h4, h5⟩ := HF2.out.cells
  have hf3 := HF2.out.blk.free 3
  clear HLF HF
  go_wp2_with fail
  go_ret
  have hm := HF2.out.move hp (by omega) (by omega)
  exact ⟨_, rfl, by rw [HFL.out]; exact Founds.nil _ _ _, _, _, HS2.out.trans hm.2, hm.1⟩
set_option maxHeartbeats 1000000 in
theorem next_more (h : FinAt w O c a s window cut p p B v xs D) (hp3 : p + 3 ≤ s.size) (hw0 : -9223372036854775808 ≤ window) (hw1 : window ≤ 9223372036854775807) (hc1 : cut ≤ 9223372036854775807) :
    Calls Try.prog 75 #[.pointer (some ⟨a, 0, none⟩)] w (NextTo w O c a s window cut p (p + 1) B v) := by
  have HLF : Hid (∀ n, Calls Try.prog 101 #[.pointer (some ⟨a, 0, none⟩)] (w.drewN n) fun x w' => x = .returned (.int .i64 ((s.size : Int) - p)) ∧ ∃ m, w' = (w.drewN n).drewN m) := Lib.hid fun n => left_raw (h.drewN n).cells.1 (h.drewN n).cells.2.2.2.1 h.place h.small
  have HF := Lib.hid h
  have hd : (((s.size : Int) - (p : Int)) == 0) = false := by rw [beq_eq_false_iff_ne]; omega
  have hd3 : decide (3 ≤ (s.size : Int) - (p : Int)) = true := by simp; omega
  have hsm := h.small
  clear h
  go_enter Try.func75, Try.ntmps75
  go_wp2_with fail
  refine (HLF.out 0).mono ?_
  rintro x w1 ⟨rfl, n1, rfl⟩
  go_wp2_with fail
  refine (HLF.out n1).mono ?_
  rintro x w1 ⟨rfl, n2, rfl⟩
  have HF2 := Lib.hid ((HF.out.drewN n1).drewN n2)
  have HS2 : Hid (Step [c] w O ((w.drewN n1).drewN n2) O) := Lib.hid (((Step.refl _ _ _).drewN n1).drewN n2)
  generalize (w.drewN n1).drewN n2 = W at *
  clear HLF HF
  go_wp2_with fail
  refine (link_any HF2.out hp3).mono ?_
  rintro x w3 ⟨rfl, xs3, D3, hs3, hF3⟩
  have HF3 := Lib.hid hF3
  have HS3 := Lib.hid (HS2.out.trans hs3)
  clear hs3 hF3 HF2 HS2
  go_wp2_with fail
  refine (longer_any HF3.out hp3 hw0 hw1 hc1).mono ?_
  rintro x w4 ⟨v4, rfl, hfo, hb4⟩
  rw [foundL_more hp3] at hfo
  have HF4 := Lib.hid (HF3.out.below hb4)
  have HS4 := Lib.hid (HS3.out.trans (Step.of_below_same hb4 O).nil)
  have hsz := HS3.out.size
  have hal3 := HF3.out.blk.lt
  have HFO := Lib.hid hfo
  obtain ⟨h0, h1, h2, h3, h4, h5⟩ := HF4.out.cells
  have hf3 := HF4.out.blk.free 3
  clear hb4 hfo HF3 HS3
  go_wp2_with fail
  go_ret
  have hm := HF4.out.move (by omega) (by omega) (by omega)
  refine ⟨_, rfl, ⟨?_, fun k hk => Nat.le_trans hsz (HFO.out.new k hk)⟩, _, _, HS4.out.trans hm.2, hm.1⟩
  exact ownsRow_frame HFO.out.row ((Frame.refl (fun k => k = a) w4).setCell (p := ⟨a, 3, none⟩) (.inl rfl) _) (fun k hk e1 => by have := HFO.out.new k hk; omega)
/-- The next place. -/
theorem next_any (h : FinAt w O c a s window cut p p B v xs D) (hw0 : -9223372036854775808 ≤ window) (hw1 : window ≤ 9223372036854775807) (hc1 : cut ≤ 9223372036854775807) :
    Calls Try.prog 75 #[.pointer (some ⟨a, 0, none⟩)] w (NextTo w O c a s window cut p (min (p + 1) s.size) B v) := by
  by_cases h0 : p = s.size
  · rw [show min (p + 1) s.size = p from by omega]
    exact next_end h h0
  · have := h.place
    rw [show min (p + 1) s.size = p + 1 from by omega]
    by_cases h3 : p + 3 ≤ s.size
    · exact next_more h h3 hw0 hw1 hc1
    · exact next_last h (by omega) h3
end
end Go.Proofs.Ythdjnbhdgacmgaa.Ch
