/-
  Contracts of the reference's decoder of layer 3: each call returns what the plain mathematics says, and writes nothing that was there.
-/
import Derived.Test.YtocoehjggkkoeaaRcDecMath
import Derived.Test.YtocoehjggkkoeaaRcRef
namespace Go.Proofs.Ytocoehjggkkoeaa.Rc
open Go.RowKit
/-- The decoder as a value. -/
def dv (d : Dec) : Value := .agg #[.string ⟨d.rest.toArray⟩, .int .u64 (d.code : Int), .int .u64 (d.size : Int), .bool d.bad]
/-- Handed back: a decoder, and a number. -/
def GivesN (w : World) (d : Dec) (n : Nat) (x : Ending) (w' : World) : Prop := x = .returned (.tuple #[dv d, .int .u64 (n : Int)]) ∧ Below w.heap.size w w'
def GivesD (w : World) (d : Dec) (x : Ending) (w' : World) : Prop := x = .returned (dv d) ∧ Below w.heap.size w w'
theorem tail_text (b : UInt8) (r : List UInt8) (U : ByteArray) (h : U = ⟨(b :: r).toArray⟩) : U.extract 1 U.size = ⟨r.toArray⟩ := by
  subst h
  apply ByteArray.ext
  apply Array.toList_inj.1
  simp
  rw [List.take_of_length_le (by simp [ByteArray.size])]
set_option maxHeartbeats 400000 in
theorem next_any (d : Dec) (hl : d.rest.length ≤ 1000000) (w : World) : Calls Try.prog 56 #[dv d] w (GivesN w d.next d.byte) := by
  obtain ⟨rest, code, size, bad⟩ := d
  cases rest with
  | nil =>
    unfold dv
    simp only
    go_enter Try.func56, Try.ntmps56
    go_wp2
    refine bodyPost_ret (v := .tuple #[.agg #[.string ⟨#[]⟩, .int .u64 (code : Int), .int .u64 (size : Int), .bool true], .int .u64 0]) ?_ rfl ⟨rfl, ((Below.refl _ _).alloc (Nat.le_refl _) _).alloc (by simp) _⟩
    simp [results, Try.results56, go_sem]
  | cons b r =>
    unfold dv
    simp only at hl ⊢
    obtain ⟨U, hU⟩ : ∃ U : ByteArray, U = ⟨(b :: r).toArray⟩ := ⟨_, rfl⟩
    have hUs : U.size = r.length + 1 := by rw [hU]; show (b :: r).toArray.size = _; simp
    have hpos : 0 < U.size := by omega
    have hU1 : U.size ≤ 1000000 := by simp at hl; omega
    have hne : ((U.size : Int) == 0) = false := by rw [beq_eq_false_iff_ne]; omega
    have h0 : U[0] = b := by subst hU; rfl
    have HX := Lib.hid (tail_text b r U hU)
    have HB := Lib.hid h0
    rw [← hU]
    clear hU hUs h0 hl
    go_enter Try.func56, Try.ntmps56
    go_wp2
    refine bodyPost_ret (v := .tuple #[.agg #[.string (U.extract 1 U.size), .int .u64 (code : Int), .int .u64 (size : Int), .bool bad], .int .u64 (IntKind.u64.wrap (U[0].toNat : Int))]) ?_ rfl ⟨?_, ((Below.refl _ _).alloc (Nat.le_refl _) _).alloc (by simp) _⟩
    · simp [results, Try.results56, go_sem]
    · have hw : IntKind.u64.wrap (U[0].toNat : Int) = (b.toNat : Int) := by
        rw [HB.out, IntKind.wrap_u64]
        have := b.toNat_lt
        omega
      rw [HX.out, hw]
      rfl
def zeroD : Value := .agg #[.string ⟨#[]⟩, .int .u64 0, .int .u64 0, .bool false]
/-- The four cells of a decoder in a block. -/
def CellsD (w : World) (X : Nat) (d : Dec) : Prop := w.heap[X]? = some (.cells #[.string ⟨d.rest.toArray⟩, .int .u64 (d.code : Int), .int .u64 (d.size : Int), .bool d.bad] 58 (0, 0))
/-- What wide's memory holds at a round's head, where at most r rounds are to come. -/
def WideningD (w : World) (d : Dec) (r : Nat) (wr : World) : Prop := ∃ d' : Dec, r ≤ 3 ∧ turnDN r d' = wide d ∧ RawD d' ∧ 16777216 ≤ d'.size * 256 ^ r ∧ d'.rest.length ≤ 1000000 ∧ CellsD wr w.heap.size d' ∧
  wr.heap[w.heap.size + 1]? = some (.cells #[.string ⟨#[]⟩, .int .u64 0, .int .u64 0, .bool false] 58 (0, 0)) ∧ Below w.heap.size w wr
theorem four {w : World} {X : Nat} {a b c d : Value} {t : TypeId} (h : w.heap[X]? = some (.cells #[a, b, c, d] t (0, 0))) :
    w.cell? ⟨X, 0, none⟩ = some a ∧ w.cell? ⟨X, 1, none⟩ = some b ∧ w.cell? ⟨X, 2, none⟩ = some c ∧ w.cell? ⟨X, 3, none⟩ = some d ∧ w.frozen? ⟨X, 0, none⟩ = false ∧ w.frozen? ⟨X, 1, none⟩ = false ∧ w.frozen? ⟨X, 2, none⟩ = false ∧ w.frozen? ⟨X, 3, none⟩ = false ∧ X < w.heap.size :=
  ⟨by simp [World.cell?, h], by simp [World.cell?, h], by simp [World.cell?, h], by simp [World.cell?, h], by simp [World.frozen?, h], by simp [World.frozen?, h], by simp [World.frozen?, h], by simp [World.frozen?, h], lt_of_heap h⟩
theorem wideningD_step {w w1 : World} {d d' dn : Dec} {r bt : Nat} (ht : turnDN (r + 1) d' = wide d) (htl : turnD d' = { dn with code := (256 * d'.code + bt) % 4294967296, size := d'.size * 256 }) (hr : RawD d') (hs : 16777216 ≤ d'.size * 256 ^ (r + 1)) (h3 : r + 1 ≤ 3)
    (hns : dn.size = d'.size) (hnc : dn.code = d'.code) (hnl : dn.rest.length ≤ 1000000) (_hlo : d'.size < 16777216) (_hbt : bt < 256)
    (hc0 : CellsD w1 w.heap.size d') (hc1 : w1.heap[w.heap.size + 1]? = some (.cells #[.string ⟨#[]⟩, .int .u64 0, .int .u64 0, .bool false] 58 (0, 0))) (hb : Below w.heap.size w w1) :
    WideningD w d r ((((((w1.setCell ⟨w.heap.size, 0, none⟩ (.string ⟨dn.rest.toArray⟩)).setCell ⟨w.heap.size, 1, none⟩ (.int .u64 (dn.code : Int))).setCell ⟨w.heap.size, 2, none⟩ (.int .u64 (dn.size : Int))).setCell ⟨w.heap.size, 3, none⟩ (.bool dn.bad)).setCell ⟨w.heap.size, 2, none⟩ (.int .u64 ((dn.size : Int) * 256))).setCell ⟨w.heap.size, 1, none⟩ (.int .u64 ((256 * (dn.code : Int) + (bt : Int)) % 4294967296))) := by
  have hraw := turnD_raw hr
  rw [htl] at hraw
  have e1 : ((dn.size : Int) * 256) = ((d'.size * 256 : Nat) : Int) := by rw [hns]; omega
  have e2 : ((256 * (dn.code : Int) + (bt : Int)) % 4294967296) = (((256 * d'.code + bt) % 4294967296 : Nat) : Int) := by rw [hnc]; omega
  rw [e1, e2]
  unfold CellsD at hc0
  have s1 := heap_setCell_same w1 w.heap.size 0 _ _ (.string ⟨dn.rest.toArray⟩) hc0
  have s2 := heap_setCell_same _ w.heap.size 1 _ _ (.int .u64 (dn.code : Int)) s1
  have s3 := heap_setCell_same _ w.heap.size 2 _ _ (.int .u64 (dn.size : Int)) s2
  have s4 := heap_setCell_same _ w.heap.size 3 _ _ (.bool dn.bad) s3
  have s5 := heap_setCell_same _ w.heap.size 2 _ _ (.int .u64 ((d'.size * 256 : Nat) : Int)) s4
  have s6 := heap_setCell_same _ w.heap.size 1 _ _ (.int .u64 (((256 * d'.code + bt) % 4294967296 : Nat) : Int)) s5
  refine ⟨{ dn with code := (256 * d'.code + bt) % 4294967296, size := d'.size * 256 }, by omega, ?_, hraw, ?_, hnl, ?_, ?_, ?_⟩
  · rw [← htl]; exact ht
  · show 16777216 ≤ d'.size * 256 * 256 ^ r
    rw [Nat.mul_assoc, Nat.mul_comm 256, ← Nat.pow_succ]; exact hs
  · unfold CellsD
    rw [s6]
    rfl
  · rw [Below.heap_setCell _ _ _ _ (by simp), Below.heap_setCell _ _ _ _ (by simp), Below.heap_setCell _ _ _ _ (by simp), Below.heap_setCell _ _ _ _ (by simp), Below.heap_setCell _ _ _ _ (by simp), Below.heap_setCell _ _ _ _ (by simp)]
    exact hc1
  · exact (((((hb.setCell (p := ⟨w.heap.size, 0, none⟩) (Nat.le_refl _) _).setCell (p := ⟨w.heap.size, 1, none⟩) (Nat.le_refl _) _).setCell (p := ⟨w.heap.size, 2, none⟩) (Nat.le_refl _) _).setCell (p := ⟨w.heap.size, 3, none⟩) (Nat.le_refl _) _).setCell (p := ⟨w.heap.size, 2, none⟩) (Nat.le_refl _) _).setCell (p := ⟨w.heap.size, 1, none⟩) (Nat.le_refl _) _
set_option maxRecDepth 100000 in
set_option maxHeartbeats 1000000 in
theorem wide_any (d : Dec) (hr : RawD d) (hl : d.rest.length ≤ 1000000) (w : World) : Calls Try.prog 57 #[dv d] w (GivesD w (wide d)) := by
  have H0 : WideningD w d 3 ((w.alloc (.cells #[.string ⟨d.rest.toArray⟩, .int .u64 (d.code : Int), .int .u64 (d.size : Int), .bool d.bad] 58)).alloc (.cells #[.string ⟨#[]⟩, .int .u64 0, .int .u64 0, .bool false] 58)) := by
    refine ⟨d, Nat.le_refl _, rfl, hr, by have := hr.1; omega, hl, ?_, ?_, ?_⟩
    · unfold CellsD; rw [Below.heap_alloc _ _ _ (by simp)]; exact heap_alloc_new _ _
    · have := heap_alloc_new (w.alloc (.cells #[.string ⟨d.rest.toArray⟩, .int .u64 (d.code : Int), .int .u64 (d.size : Int), .bool d.bad] 58)) (.cells #[.string ⟨#[]⟩, .int .u64 0, .int .u64 0, .bool false] 58)
      rw [World.size_alloc] at this
      exact this
    · exact ((Below.refl _ _).alloc (Nat.le_refl _) _).alloc (by simp) _
  have HH := Lib.hid H0
  clear H0 hr hl
  unfold dv
  go_enter Try.func57, Try.ntmps57
  go_wp2
  go_loopg [3] 3 (fun r _ wr => WideningD w d r wr)
  case atStart => exact HH.out
  case round =>
    clear HH
    obtain ⟨d', hr3, ht1, hr1, hs1, hl1, hc0, hc1, hbel⟩ := hrel
    obtain ⟨hp0, hp1, hp2, hp3, hf0, hf1, hf2, hf3, hplt⟩ := four hc0
    obtain ⟨hq0, hq1, hq2, hq3, hg0, hg1, hg2, hg3, hqlt⟩ := four hc1
    have HS1 := Lib.hid hs1
    have HR1 := Lib.hid hr1
    have HR3 := Lib.hid hr3
    have HC0 := Lib.hid hc0
    have HC1 := Lib.hid hc1
    have HBel := Lib.hid hbel
    have HT := Lib.hid ht1
    by_cases hlo : d'.size < 16777216
    · have hd : decide ((d'.size : Int) < 16777216) = true := by rw [decide_eq_true_iff]; omega
      have HLO := Lib.hid hlo
      have HL1 := Lib.hid hl1
      have HLT := Lib.hid hqlt
      clear hs1 hr1 hr3 hc0 hc1 hbel ht1 hlo hqlt hl1
      go_wp2_with fail
      refine (next_any d' HL1.out wr).mono ?_
      rintro x w1 ⟨rfl, hb1⟩
      have hc0 : CellsD w1 w.heap.size d' := (hb1.block _ hplt).trans HC0.out
      have hc1 := (hb1.block _ HLT.out).trans HC1.out
      have hbw := HBel.out.trans (hb1.mono HBel.out.size)
      clear hp0 hp1 hp2 hp3 hf0 hf1 hf2 hf3 hplt hq0 hq1 hq2 hq3 hg0 hg1 hg2 hg3 HC0 HC1 hb1 hd
      obtain ⟨hp0, hp1, hp2, hp3, hf0, hf1, hf2, hf3, hplt⟩ := four hc0
      have hbl := byte_lt d'
      have hcl : d'.code < 4294967296 := HR1.out.2.2
      have hns := next_size d'
      have HC0 := Lib.hid hc0
      have HC1 := Lib.hid hc1
      have HBW := Lib.hid hbw
      have hnsI : d'.next.size = d'.size := hns
      have hnl : d'.next.rest.length ≤ 1000000 := Nat.le_trans (next_len d') HL1.out
      have hnc : d'.next.code = d'.code := next_code d'
      have hss : d'.next.size < 4294967296 := by rw [hns]; have := HLO.out; omega
      have hccn : d'.next.code < 4294967296 := by rw [hnc]; exact hcl
      have HNS := Lib.hid hns
      have HNC := Lib.hid hnc
      have HNL := Lib.hid hnl
      have hnb : d'.next.bad = d'.next.bad := rfl
      clear hc0 hc1 hbw hns hnc hnl hnsI hcl hnb
      unfold dv
      have HTL := Lib.hid (turnD_lo d' HLO.out)
      generalize d'.next = dn at *
      generalize d'.byte = bt at *
      have hgk : gk ≠ 0 := by
        rintro rfl
        have h1 := HS1.out
        have h2 := HLO.out
        simp at h1; omega
      obtain ⟨r, rfl⟩ : ∃ r, gk = r + 1 := ⟨gk - 1, by omega⟩
      clear hgk
      go_wp2
      go_roundg r
      case measure => omega
      case rel => exact wideningD_step HT.out HTL.out HR1.out HS1.out HR3.out HNS.out HNC.out HNL.out HLO.out hbl HC0.out HC1.out HBW.out
    · have hd : decide ((d'.size : Int) < 16777216) = false := by rw [decide_eq_false_iff_not]; omega
      have hk := turnDN_keep gk (e := d') (by omega)
      rw [hk] at ht1
      have HK := Lib.hid ht1
      clear hs1 hr1 hr3 hc0 hc1 hbel ht1 hlo hk hqlt hl1
      go_wp2
      refine bodyPost_ret (v := dv d') ?_ rfl ⟨by rw [← HK.out], ?_⟩
      · simp [results, Try.results57, go_sem, hq0, hq1, hq2, hq3, dv]
      · exact (((HBel.out.setCell (p := ⟨w.heap.size + 1, 0, none⟩) (by simp) _).setCell (p := ⟨w.heap.size + 1, 1, none⟩) (by simp) _).setCell (p := ⟨w.heap.size + 1, 2, none⟩) (by simp) _).setCell (p := ⟨w.heap.size + 1, 3, none⟩) (by simp) _
end Go.Proofs.Ytocoehjggkkoeaa.Rc
