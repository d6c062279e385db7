/-
  Package piece: contracts of Size, Packet, New and Next.
-/
import Derived.Test.YtoneghmahdjgbaaGreatPk07
import Derived.Test.YtoneghmahdjgbaaGreatPk17
import Derived.Deep.QuietTactic
import Derived.BigQuiet
import Derived.Laws.StructEq
set_option linter.unusedVariables false
namespace Go.Proofs.YtoneghmahdjgbaaGreat.Gr
open Go.RowKit
open Mt
open Ch
open Pk (Rp Pt four four_heap below_four)
theorem eq_piece (n d : Nat) (w : World) : (Op.equalIn 10000 46 (.agg #[.int .i64 (n : Int), .int .i64 (d : Int)]) (.agg #[.int .i64 0, .int .i64 0])).run Tryz.prog w = .ok (decide ((n, d) = (0, 0))) w := by
  rw [run_equalIn_struct (P := Tryz.prog) w 9999 46 _ _ (by kernel_rfl) (by kernel_rfl)]
  have hcase : n ≠ 0 ∨ (n = 0 ∧ d ≠ 0) ∨ (n = 0 ∧ d = 0) := by omega
  rcases hcase with h1 | ⟨h1, h2⟩ | ⟨h1, h2⟩ <;> simp [go_sem, Tryz.underlying46, Tryz.underlying3, *]
/-- A piece's value. -/
def pv (x : Nat × Nat) : Value := .agg #[.int .i64 (x.1 : Int), .int .i64 (x.2 : Int)]
theorem two_cells {w : World} {X : Nat} {a b : Value} {t : TypeId} (h : w.heap[X]? = some (.cells #[a, b] t (0, 0))) : (w.cell? ⟨X, 0, none⟩ = some a ∧ w.cell? ⟨X, 1, none⟩ = some b) ∧ w.frozen? ⟨X, 0, none⟩ = false ∧ w.frozen? ⟨X, 1, none⟩ = false ∧ X < w.heap.size :=
  ⟨⟨by simp [World.cell?, h], by simp [World.cell?, h]⟩, by simp [World.frozen?, h], by simp [World.frozen?, h], lt_of_heap h⟩
theorem psize_any (x : Nat × Nat) (w : World) : Calls Tryz.prog 16 #[.agg #[.int .i64 (x.1 : Int), .int .i64 (x.2 : Int)]] w fun e w' => e = .returned (.int .i64 (size1 x : Int)) ∧ Below w.heap.size w w' := by
  obtain ⟨n, d⟩ := x
  have hq := eq_piece n d
  have HS : Hid (size1 (n, d) = if decide ((n, d) = (0, 0)) = true then 1 else n) := Lib.hid (by unfold size1; simp)
  simp only
  generalize decide ((n, d) = (0, 0)) = b at *
  have hb1 : Below w.heap.size w (w.alloc (.cells #[.int .i64 (n : Int), .int .i64 (d : Int)] 46)) := (Below.refl _ _).alloc (Nat.le_refl _) _
  have HB1 := Lib.hid hb1
  obtain ⟨⟨p0, p1⟩, _, _, hl⟩ := two_cells (heap_alloc_new w (.cells #[.int .i64 (n : Int), .int .i64 (d : Int)] 46))
  clear hb1
  go_enter Tryz.func16, Tryz.ntmps16
  go_upto_region 1 with (fail)
  generalize w.alloc (.cells #[.int .i64 (n : Int), .int .i64 (d : Int)] 46) = W1 at *
  generalize hP : w.heap.size = P at *
  cases b with
  | true =>
    go_wp2_with fail
    go_ret
    exact ⟨by rw [HS.out]; rfl, by first | exact HB1.out | (rw [hP]; exact HB1.out)⟩
  | false =>
    go_wp2_with fail
    go_ret
    exact ⟨by rw [HS.out]; rfl, by first | exact HB1.out | (rw [hP]; exact HB1.out)⟩
/-- The packet of a piece that begins with the byte b. -/
def pktB (b : Nat) (x : Nat × Nat) : Pt := if x = (0, 0) then ⟨1, 0, 0, b⟩ else ⟨2, (x.2 : Int), (x.1 : Int), 0⟩
theorem pktB_val (b : Nat) (x : Nat × Nat) : (pktB b x).val = if decide (x = (0, 0)) = true then .agg #[.int .i64 1, .int .i64 0, .int .i64 0, .int .u8 (b : Int)] else .agg #[.int .i64 2, .int .i64 (x.2 : Int), .int .i64 (x.1 : Int), .int .u8 0] := by
  unfold pktB Pt.val
  by_cases h : x = (0, 0)
  · simp [h]
  · simp [h]
set_option maxHeartbeats 1000000 in
theorem ppacket_any (b : Nat) (x : Nat × Nat) (w : World) : Calls Tryz.prog 17 #[.agg #[.int .i64 (x.1 : Int), .int .i64 (x.2 : Int)], .int .u8 (b : Int)] w fun e w' => e = .returned (pktB b x).val ∧ Below w.heap.size w w' := by
  rw [pktB_val]
  obtain ⟨n, d⟩ := x
  have hq := eq_piece n d
  simp only
  generalize decide ((n, d) = (0, 0)) = c at *
  have hb1 : Below w.heap.size w ((w.alloc (.cells #[.int .i64 (n : Int), .int .i64 (d : Int)] 46)).alloc (.cells #[.int .i64 0, .int .i64 0, .int .i64 0, .int .u8 0] 33)) := ((Below.refl _ _).alloc (Nat.le_refl _) _).alloc (by simp) _
  have HB1 := Lib.hid hb1
  have hx := heap_alloc_new w (.cells #[.int .i64 (n : Int), .int .i64 (d : Int)] 46)
  have hx2 := (Below.heap_alloc (w.alloc (.cells #[.int .i64 (n : Int), .int .i64 (d : Int)] 46)) (.cells #[.int .i64 0, .int .i64 0, .int .i64 0, .int .u8 0] 33) _ (lt_of_heap hx)).trans hx
  have hz := heap_alloc_new (w.alloc (.cells #[.int .i64 (n : Int), .int .i64 (d : Int)] 46)) (.cells #[.int .i64 0, .int .i64 0, .int .i64 0, .int .u8 0] 33)
  rw [World.size_alloc] at hz
  clear hb1 hx
  go_enter Tryz.func17, Tryz.ntmps17
  go_upto_region 1 with (fail)
  generalize (w.alloc (.cells #[.int .i64 (n : Int), .int .i64 (d : Int)] 46)).alloc (.cells #[.int .i64 0, .int .i64 0, .int .i64 0, .int .u8 0] 33) = W1 at *
  obtain ⟨⟨p0, p1⟩, _, _, hl⟩ := two_cells hx2
  have HZ := Lib.hid hz
  obtain ⟨⟨z0, z1, z2, z3⟩, ⟨y0, y1, y2, y3⟩, hlz⟩ := four hz
  clear hx2 hz
  generalize hP : w.heap.size = P at *
  have hPw : P ≤ w.heap.size := by omega
  cases c with
  | true =>
    go_wp2_with fail
    have hh := four_heap HZ.out (.int .i64 1) (.int .i64 0) (.int .i64 0) (.int .u8 (b : Int))
    obtain ⟨⟨r0, r1, r2, r3⟩, _, _⟩ := four hh
    have hb := below_four (X := P + 1) HB1.out (by omega) (.int .i64 1) (.int .i64 0) (.int .i64 0) (.int .u8 (b : Int))
    clear hh z0 z1 z2 z3 y0 y1 y2 y3 p0 p1
    refine bodyPost_ret (v := .agg #[.int .i64 1, .int .i64 0, .int .i64 0, .int .u8 (b : Int)]) ?_ rfl ?_
    · simp [results, Tryz.results17, go_sem, r0, r1, r2, r3]
    · first | exact ⟨rfl, hb⟩ | (rw [hP]; exact ⟨rfl, hb⟩)
  | false =>
    go_wp2_with fail
    have hh := four_heap HZ.out (.int .i64 2) (.int .i64 (d : Int)) (.int .i64 (n : Int)) (.int .u8 0)
    obtain ⟨⟨r0, r1, r2, r3⟩, _, _⟩ := four hh
    have hb := below_four (X := P + 1) HB1.out (by omega) (.int .i64 2) (.int .i64 (d : Int)) (.int .i64 (n : Int)) (.int .u8 0)
    clear hh z0 z1 z2 z3 y0 y1 y2 y3 p0 p1
    refine bodyPost_ret (v := .agg #[.int .i64 2, .int .i64 (d : Int), .int .i64 (n : Int), .int .u8 0]) ?_ rfl ?_
    · simp [results, Tryz.results17, go_sem, r0, r1, r2, r3]
    · first | exact ⟨rfl, hb⟩ | (rw [hP]; exact ⟨rfl, hb⟩)
/-- F is a finder of pieces, at the place p: its own finder belongs to 1, it to 2. -/
structure PiAt (w : World) (O : Paint) (F : Nat) (s : ByteArray) (window cut : Int) (p : Nat) : Prop where
  fin : ∃ a B v xs D, FinAt w O 1 a s (min window 1048576) cut p p B v xs D ∧ Blk w O 2 F (.cells #[.pointer (some ⟨a, 0, none⟩)] 92 (0, 0))
section
variable {cs : List Nat} {w w' : World} {O O' : Paint} {F p : Nat} {s : ByteArray} {window cut : Int}
theorem PiAt.step (h : PiAt w O F s window cut p) (hs : Step cs w O w' O') (h1 : 1 ∉ cs) (h2 : 2 ∉ cs) : PiAt w' O' F s window cut p := by
  obtain ⟨a, B, v, xs, D, hF, hb⟩ := h.fin
  exact ⟨a, B, v, xs, D, hF.step hs h1, hb.step hs h2⟩
def NewTo (w : World) (O : Paint) (s : ByteArray) (mn cut : Int) (x : Ending) (w' : World) : Prop := ∃ a O' B v xs D, x = .returned (.pointer (some ⟨a, 0, none⟩)) ∧ Step [] w O w' O' ∧ FinAt w' O' 1 a s mn cut 0 0 B v xs D
set_option maxRecDepth 100000 in
theorem pnew_any (w : World) (O : Paint) (s : ByteArray) (window cut : Int) (hs : s.size ≤ 1000000000) :
    Calls Tryz.prog 21 #[.string s, .int .i64 window, .int .i64 cut] w fun x w' => ∃ F O', x = .returned (.pointer (some ⟨F, 0, none⟩)) ∧ Step [] w O w' O' ∧ PiAt w' O' F s window cut 0 := by
  have HN : Hid (Calls Tryz.prog 43 #[.string s, .int .i64 (min window 1048576), .int .i64 cut] w (NewTo w O s (min window 1048576) cut)) := Lib.hid (Ch.new_any s (min window 1048576) cut w O 1 hs)
  have HMN : Hid (∃ mn : Int, mn = min window 1048576) := Lib.hid ⟨_, rfl⟩
  obtain ⟨mn, hmn⟩ := HMN.out
  have HF0 : Hid (∀ w' O' F, (∃ a B v xs D, FinAt w' O' 1 a s mn cut 0 0 B v xs D ∧ Blk w' O' 2 F (.cells #[.pointer (some ⟨a, 0, none⟩)] 92 (0, 0))) → PiAt w' O' F s window cut 0) := Lib.hid (fun w' O' F h => ⟨by rw [← hmn]; exact h⟩)
  rw [← hmn] at HN
  have h1 : (1048576 : Int) < window → mn = 1048576 := fun h => by omega
  have h2 : ¬ (1048576 : Int) < window → mn = window := fun h => by omega
  have HMM := Lib.hid (And.intro h1 h2)
  clear hmn HMN h1 h2
  have HNA : Hid (1048576 < window → Calls Tryz.prog 43 #[.string s, .int .i64 1048576, .int .i64 cut] w (NewTo w O s mn cut)) := Lib.hid (fun hlt => by have h1 := HN.out; have h2 := HMM.out.1 hlt; rw [← h2]; exact h1)
  have HNB : Hid (¬ 1048576 < window → Calls Tryz.prog 43 #[.string s, .int .i64 window, .int .i64 cut] w (NewTo w O s mn cut)) := Lib.hid (fun hlt => by have h1 := HN.out; have h2 := HMM.out.2 hlt; rw [← h2]; exact h1)
  clear HN HMM
  go_enter Tryz.func21, Tryz.ntmps21
  go_wp2_with fail
  case inl =>
    refine (HNA.out (by assumption)).mono ?_
    clear HNA HNB
    rintro x w2 ⟨a, O2, B, v, xs, D, rfl, hst, hF⟩
    have hb : Below w2.heap.size w2 (w2.alloc (.cells #[.pointer (some ⟨a, 0, none⟩)] 92)) := (Below.refl _ _).alloc (Nat.le_refl _) _
    have hs2 := Step.of_below hb O2 2
    have HE : Hid (∃ F O', (Ending.returned (.pointer (some ⟨w2.heap.size, 0, none⟩))) = .returned (.pointer (some ⟨F, 0, none⟩)) ∧ Step [] w O (w2.alloc (.cells #[.pointer (some ⟨a, 0, none⟩)] 92)) O' ∧ PiAt (w2.alloc (.cells #[.pointer (some ⟨a, 0, none⟩)] 92)) O' F s window cut 0) :=
      Lib.hid ⟨_, _, rfl, hst.trans hs2, HF0.out _ _ _ ⟨_, _, _, _, _, hF.step hs2 (by simp), ⟨heap_alloc_new _ _, Step.paint_new (Nat.le_refl _)⟩⟩⟩
    clear hst hF hb hs2 HF0
    go_wp2_with fail
    go_ret
    exact HE.out
  case inr =>
    refine (HNB.out (by assumption)).mono ?_
    clear HNA HNB
    rintro x w2 ⟨a, O2, B, v, xs, D, rfl, hst, hF⟩
    have hb : Below w2.heap.size w2 (w2.alloc (.cells #[.pointer (some ⟨a, 0, none⟩)] 92)) := (Below.refl _ _).alloc (Nat.le_refl _) _
    have hs2 := Step.of_below hb O2 2
    have HE : Hid (∃ F O', (Ending.returned (.pointer (some ⟨w2.heap.size, 0, none⟩))) = .returned (.pointer (some ⟨F, 0, none⟩)) ∧ Step [] w O (w2.alloc (.cells #[.pointer (some ⟨a, 0, none⟩)] 92)) O' ∧ PiAt (w2.alloc (.cells #[.pointer (some ⟨a, 0, none⟩)] 92)) O' F s window cut 0) :=
      Lib.hid ⟨_, _, rfl, hst.trans hs2, HF0.out _ _ _ ⟨_, _, _, _, _, hF.step hs2 (by simp), ⟨heap_alloc_new _ _, Step.paint_new (Nat.le_refl _)⟩⟩⟩
    clear hst hF hb hs2 HF0
    go_wp2_with fail
    go_ret
    exact HE.out
set_option maxHeartbeats 1000000 in
theorem pnext_any (h : PiAt w O F s window cut p) (hs : s.size ≤ 1048576) (hw0 : -9223372036854775808 ≤ window) (hw1 : window ≤ 9223372036854775807) (hc1 : cut ≤ 9223372036854775807) :
    Calls Tryz.prog 22 #[.pointer (some ⟨F, 0, none⟩)] w fun x w' => x = .returned (pv (best s window cut p)) ∧ ∃ O', Step [1] w O w' O' ∧ PiAt w' O' F s window cut (min (p + 1) s.size) := by
  obtain ⟨a, B, v, xs, D, hF, hb⟩ := h.fin
  have hp := hF.place
  have hb1 : Below w.heap.size w (w.alloc (.cells #[.int .i64 0, .int .i64 0] 46)) := (Below.refl _ _).alloc (Nat.le_refl _) _
  have hs1 := Step.of_below hb1 O 3
  have hF1 := hF.step hs1 (by simp)
  have hb2 := hb.step hs1 (by simp)
  have hz := heap_alloc_new w (.cells #[.int .i64 0, .int .i64 0] 46)
  have hz3 : Step.paint O w 3 w.heap.size = 3 := Step.paint_new (Nat.le_refl _)
  have HMN := Lib.hid (foundL_min s window cut 1048576 p (by omega))
  have HBN := Lib.hid (fun e => best_none (s := s) (window := window) (cut := cut) (p := p) e)
  have HBL : Hid (∀ (n : Nat) (y : Nat × Nat), (foundL s window cut p).length = n + 1 → (foundL s window cut p)[n]? = some y → best s window cut p = y) := Lib.hid (fun n y e h => by
    rw [best_last e]
    rw [List.getElem?_eq_getElem (by omega)] at h
    exact Option.some.inj h)
  clear h hF hb hb1
  go_enter Tryz.func22, Tryz.ntmps22
  go_upto_region 1 with (fail)
  generalize w.alloc (.cells #[.int .i64 0, .int .i64 0] 46) = W1 at *
  generalize Step.paint O w 3 = O1 at *
  have HPP : Hid (∃ P, P = w.heap.size) := Lib.hid ⟨_, rfl⟩
  obtain ⟨P, hP⟩ := HPP.out
  rw [← hP] at hz hz3 ⊢
  have hPw : w.heap.size ≤ P := by omega
  clear hP HPP
  have c0 : W1.cell? ⟨F, 0, none⟩ = some (.pointer (some ⟨a, 0, none⟩)) := hb2.cell 0
  have hPl := lt_of_heap hz
  have HNX := Lib.hid (Ch.next_any hF1 (by omega) (by omega) hc1)
  have HS1 := Lib.hid hs1
  have HB2 := Lib.hid hb2
  clear hs1 hb2 hF1
  go_wp2_with fail
  refine HNX.out.mono ?_
  rintro x w3 ⟨v3, rfl, hfo, xs3, D3, hs3, hF3⟩
  rw [HMN.out] at hfo
  have hz1 := (hs3.block hPl (by rw [hz3]; simp)).trans hz
  have hb3 := HB2.out.step hs3 (by simp)
  have hs13 : Step [1] w O w3 O1 := HS1.out.nil.trans hs3
  have HRES : Hid (∀ u1 u2 : Value, ∃ O', Step [1] w O ((w3.setCell ⟨P, 0, none⟩ u1).setCell ⟨P, 1, none⟩ u2) O' ∧ PiAt ((w3.setCell ⟨P, 0, none⟩ u1).setCell ⟨P, 1, none⟩ u2) O' F s window cut (min (p + 1) s.size)) := Lib.hid (fun u1 u2 => by
    have hs4 : Step [3] w3 O1 ((w3.setCell ⟨P, 0, none⟩ u1).setCell ⟨P, 1, none⟩ u2) O1 := ((Step.refl [3] w3 O1).setCell (p := ⟨P, 0, none⟩) (.inl (by simp [hz3])) _).setCell (p := ⟨P, 1, none⟩) (.inl (by simp [hz3])) _
    exact ⟨O1, (hs13.setCell (p := ⟨P, 0, none⟩) (.inr hPw) u1).setCell (p := ⟨P, 1, none⟩) (.inr hPw) u2, ⟨_, _, _, _, _, hF3.step hs4 (by simp), hb3.step hs4 (by simp)⟩⟩)
  have HZ := Lib.hid hz1
  have HFO := Lib.hid hfo
  obtain ⟨_, y0, y1, hlz⟩ := two_cells hz1
  have hll := hfo.small
  clear hs3 hF3 hb3 HNX HMN HS1 HB2 hz hz1 hs13 hfo c0 hz3
  obtain ⟨l, hl⟩ : ∃ l, l = foundL s window cut p := ⟨_, rfl⟩
  rw [← hl] at HFO HBN HBL hll
  clear hl
  have HR2 : Hid (∀ u1 u2 : Value, ((w3.setCell ⟨P, 0, none⟩ u1).setCell ⟨P, 1, none⟩ u2).cell? ⟨P, 0, none⟩ = some u1 ∧ ((w3.setCell ⟨P, 0, none⟩ u1).setCell ⟨P, 1, none⟩ u2).cell? ⟨P, 1, none⟩ = some u2) := Lib.hid (fun u1 u2 => by
    have h1 := heap_setCell_same _ _ 1 _ _ u2 (heap_setCell_same w3 _ 0 _ _ u1 HZ.out)
    simp at h1
    exact (two_cells h1).1)
  obtain ⟨A, cap, rfl⟩ := HFO.out.slice
  cases hn : l.length with
  | zero =>
    have HV := Lib.hid (HBN.out (List.eq_nil_of_length_eq_zero hn))
    clear HBN HBL
    go_wp2_with fail
    obtain ⟨r0, r1⟩ := HR2.out (.int .i64 0) (.int .i64 0)
    refine bodyPost_ret (v := .agg #[.int .i64 0, .int .i64 0]) ?_ rfl ?_
    · simp [results, Tryz.results22, go_sem, r0, r1]
    · exact ⟨by rw [HV.out]; rfl, HRES.out _ _⟩
  | succ n =>
    have HV := Lib.hid (HBL.out n l[n] hn (List.getElem?_eq_getElem (by omega)))
    obtain ⟨g, rfl, hc⟩ := HFO.out.cells (by omega)
    obtain ⟨d0, d1⟩ := hc n (by omega)
    have hwn : IntKind.i64.wrap (((n + 1 : Nat) : Int) - 1) = (n : Int) := by rw [IntKind.wrap_i64]; omega
    clear HBN HBL hc
    obtain ⟨y, hy⟩ : ∃ y, y = l[n] := ⟨_, rfl⟩
    rw [← hy] at HV d0 d1
    clear hy HFO
    go_wp2_with fail
    obtain ⟨r0, r1⟩ := HR2.out (.int .i64 (y.1 : Int)) (.int .i64 (y.2 : Int))
    refine bodyPost_ret (v := .agg #[.int .i64 (y.1 : Int), .int .i64 (y.2 : Int)]) ?_ rfl ?_
    · simp [results, Tryz.results22, go_sem, r0, r1]
    · exact ⟨by rw [HV.out]; rfl, HRES.out _ _⟩
end
end Go.Proofs.YtoneghmahdjgbaaGreat.Gr
