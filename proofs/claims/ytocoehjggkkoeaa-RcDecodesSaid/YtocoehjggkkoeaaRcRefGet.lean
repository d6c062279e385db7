/-
  Contracts of the reference's decoder of layer 3, more: GetBit, GetDirect, Where, Take, Read.
-/
import Derived.Test.YtocoehjggkkoeaaRcRefDec
namespace Go.Proofs.Ytocoehjggkkoeaa.Rc
open Go.RowKit
/-- Behind a call that wrote nothing that was there: a block of four cells that lay behind another. -/
theorem behind4 {w w3 : World} {o : Obj} {a b c d : Value} {t : TypeId} (h : Below ((w.alloc o).alloc (.cells #[a, b, c, d] t)).heap.size ((w.alloc o).alloc (.cells #[a, b, c, d] t)) w3) :
    w3.heap[w.heap.size + 1]? = some (.cells #[a, b, c, d] t (0, 0)) ∧ Below w.heap.size w w3 := by
  have hs : ((w.alloc o).alloc (.cells #[a, b, c, d] t)).heap.size = w.heap.size + 2 := by simp
  rw [hs] at h
  refine ⟨?_, ?_⟩
  · rw [h.block _ (by omega)]
    have := heap_alloc_new (w.alloc o) (.cells #[a, b, c, d] t)
    rw [World.size_alloc] at this
    exact this
  · exact (((Below.refl _ _).alloc (Nat.le_refl _) _).alloc (by simp) _).trans (h.mono (by omega))
theorem laid4 {w w3 : World} (hb : Below w.heap.size w w3) (a b c d : Value) : Below w.heap.size w ((((w3.setCell ⟨w.heap.size + 1, 0, none⟩ a).setCell ⟨w.heap.size + 1, 1, none⟩ b).setCell ⟨w.heap.size + 1, 2, none⟩ c).setCell ⟨w.heap.size + 1, 3, none⟩ d) :=
  (((hb.setCell (p := ⟨w.heap.size + 1, 0, none⟩) (by simp) _).setCell (p := ⟨w.heap.size + 1, 1, none⟩) (by simp) _).setCell (p := ⟨w.heap.size + 1, 2, none⟩) (by simp) _).setCell (p := ⟨w.heap.size + 1, 3, none⟩) (by simp) _
set_option maxHeartbeats 400000 in
theorem getBit_any (d : Dec) (hf : FineD d) (hl : d.rest.length ≤ 1000000) (p : Nat) (h1 : 31 ≤ p) (h2 : p ≤ 2017) (w : World) :
    Calls Try.prog 32 #[dv d, .int .u64 (p : Int)] w fun x w' => x = .returned (.tuple #[dv (d.getBit p), .int .u64 ((learn p (d.bitOf p) : Nat) : Int), .int .i64 (d.bitOf p : Int)]) ∧ Below w.heap.size w w' := by
  obtain ⟨rest, code, s, bad⟩ := d
  have hraw := getBit_raw hf (show 1 ≤ p by omega) (show p ≤ 2047 by omega)
  have hbl := bound_lt hf.1 (show p ≤ 2047 by omega)
  have hsz : s < 4294967296 := hf.2.1
  have hcz : code < 4294967296 := hf.2.2
  have hgb : (Dec.mk rest code s bad).getBit p = if code < s / 2048 * p then wide ⟨rest, code, s / 2048 * p, bad⟩ else wide ⟨rest, code - s / 2048 * p, s - s / 2048 * p, bad⟩ := rfl
  have hbo : (Dec.mk rest code s bad).bitOf p = if code < s / 2048 * p then 0 else 1 := rfl
  simp only at hraw hbl hl
  rw [hgb, hbo]
  have hmul : ((s : Int) / 2048 * (p : Int)) = ((s / 2048 * p : Nat) : Int) := by simp
  have hnn : (0 : Int) ≤ (s : Int) / 2048 * (p : Int) := by rw [hmul]; exact Int.natCast_nonneg _
  have hnu : (s : Int) / 2048 * (p : Int) < (s : Int) := by rw [hmul]; exact Int.ofNat_lt.2 hbl
  by_cases hc : code < s / 2048 * p
  · rw [if_pos hc] at hraw
    rw [if_pos hc, if_pos hc]
    have hd : decide ((code : Int) < (s : Int) / 2048 * (p : Int)) = true := by rw [decide_eq_true_iff, hmul]; exact Int.ofNat_lt.2 hc
    have HMUL := Lib.hid hmul
    have HRAW := Lib.hid hraw
    have HL := Lib.hid hl
    clear hf hraw hgb hbo hmul hbl hc hl
    unfold dv
    simp only
    go_enter Try.func32, Try.ntmps32
    go_wp2_with fail
    rw [HMUL.out]
    refine (wide_any ⟨rest, code, s / 2048 * p, bad⟩ HRAW.out HL.out _).mono ?_
    rintro x w3 ⟨rfl, hb3⟩
    obtain ⟨k1, hbw⟩ := behind4 hb3
    obtain ⟨hq0, hq1, hq2, hq3, hg0, hg1, hg2, hg3, hqlt⟩ := four k1
    have HBW := Lib.hid hbw
    clear hb3 hbw k1 hnn hnu hd
    generalize hd3 : wide ⟨rest, code, s / 2048 * p, bad⟩ = d3 at *
    have HD3 := Lib.hid hd3
    clear hd3
    unfold dv
    go_wp2_with fail
    refine (learn_any p 0 h1 h2 (by omega) _).mono ?_
    rintro x w4 ⟨rfl, rfl⟩
    go_wp2
    refine bodyPost_ret (v := .tuple #[dv d3, .int .u64 ((learn p 0 : Nat) : Int), .int .i64 0]) ?_ rfl ⟨by rw [HD3.out]; rfl, laid4 HBW.out _ _ _ _⟩
    simp [results, Try.results32, go_sem, hq0, hq1, hq2, hq3, dv]
  · rw [if_neg hc] at hraw
    rw [if_neg hc, if_neg hc]
    have hd : decide ((code : Int) < (s : Int) / 2048 * (p : Int)) = false := by rw [decide_eq_false_iff_not, hmul]; omega
    have hge : (s : Int) / 2048 * (p : Int) ≤ (code : Int) := by rw [hmul]; exact Int.ofNat_le.2 (by omega)
    have HSUB := Lib.hid (show ((code : Int) - ((s / 2048 * p : Nat) : Int)) = ((code - s / 2048 * p : Nat) : Int) by omega)
    have HSUB2 := Lib.hid (show ((s : Int) - ((s / 2048 * p : Nat) : Int)) = ((s - s / 2048 * p : Nat) : Int) by omega)
    have HMUL := Lib.hid hmul
    have HRAW := Lib.hid hraw
    have HL := Lib.hid hl
    clear hf hraw hgb hbo hmul hbl hc hl
    unfold dv
    simp only
    go_enter Try.func32, Try.ntmps32
    go_wp2_with fail
    rw [HMUL.out, HSUB.out, HSUB2.out]
    refine (wide_any ⟨rest, code - s / 2048 * p, s - s / 2048 * p, bad⟩ HRAW.out HL.out _).mono ?_
    rintro x w3 ⟨rfl, hb3⟩
    obtain ⟨k1, hbw⟩ := behind4 hb3
    obtain ⟨hq0, hq1, hq2, hq3, hg0, hg1, hg2, hg3, hqlt⟩ := four k1
    have HBW := Lib.hid hbw
    clear hb3 hbw k1 hnn hnu hd hge
    generalize hd3 : wide ⟨rest, code - s / 2048 * p, s - s / 2048 * p, bad⟩ = d3 at *
    have HD3 := Lib.hid hd3
    clear hd3
    unfold dv
    go_wp2_with fail
    refine (learn_any p 1 h1 h2 (by omega) _).mono ?_
    rintro x w4 ⟨rfl, rfl⟩
    go_wp2
    refine bodyPost_ret (v := .tuple #[dv d3, .int .u64 ((learn p 1 : Nat) : Int), .int .i64 1]) ?_ rfl ⟨by rw [HD3.out]; rfl, laid4 HBW.out _ _ _ _⟩
    simp [results, Try.results32, go_sem, hq0, hq1, hq2, hq3, dv]
set_option maxHeartbeats 400000 in
theorem getDirect_any (d : Dec) (hf : FineD d) (hl : d.rest.length ≤ 1000000) (w : World) :
    Calls Try.prog 29 #[dv d] w fun x w' => x = .returned (.tuple #[dv d.getDirect, .int .i64 (d.directOf : Int)]) ∧ Below w.heap.size w w' := by
  obtain ⟨rest, code, s, bad⟩ := d
  have hraw := getDirect_raw hf
  have hsz : s < 4294967296 := hf.2.1
  have hcz : code < 4294967296 := hf.2.2
  have hgb : (Dec.mk rest code s bad).getDirect = if code < s / 2 then wide ⟨rest, code, s / 2, bad⟩ else wide ⟨rest, code - s / 2, s / 2, bad⟩ := rfl
  have hbo : (Dec.mk rest code s bad).directOf = if code < s / 2 then 0 else 1 := rfl
  simp only at hraw hl
  rw [hgb, hbo]
  have hmul : ((s : Int) / 2) = ((s / 2 : Nat) : Int) := by simp
  by_cases hc : code < s / 2
  · rw [if_pos hc] at hraw
    rw [if_pos hc, if_pos hc]
    have hd : decide ((s : Int) / 2 ≤ (code : Int)) = false := by rw [decide_eq_false_iff_not]; omega
    have HMUL := Lib.hid hmul
    have HRAW := Lib.hid hraw
    have HL := Lib.hid hl
    clear hf hraw hgb hbo hmul hc hl
    unfold dv
    simp only
    go_enter Try.func29, Try.ntmps29
    go_wp2_with fail
    rw [HMUL.out]
    refine (wide_any ⟨rest, code, s / 2, bad⟩ HRAW.out HL.out _).mono ?_
    rintro x w3 ⟨rfl, hb3⟩
    obtain ⟨k1, hbw⟩ := behind4 hb3
    obtain ⟨hq0, hq1, hq2, hq3, hg0, hg1, hg2, hg3, hqlt⟩ := four k1
    have HBW := Lib.hid hbw
    clear hb3 hbw k1 hd
    generalize hd3 : wide ⟨rest, code, s / 2, bad⟩ = d3 at *
    have HD3 := Lib.hid hd3
    clear hd3
    unfold dv
    go_wp2
    refine bodyPost_ret (v := .tuple #[dv d3, .int .i64 0]) ?_ rfl ⟨by rw [HD3.out]; rfl, laid4 HBW.out _ _ _ _⟩
    simp [results, Try.results29, go_sem, hq0, hq1, hq2, hq3, dv]
  · rw [if_neg hc] at hraw
    rw [if_neg hc, if_neg hc]
    have hd : decide ((s : Int) / 2 ≤ (code : Int)) = true := by rw [decide_eq_true_iff]; omega
    have hge : (s : Int) / 2 ≤ (code : Int) := by omega
    have HSUB := Lib.hid (show ((code : Int) - ((s / 2 : Nat) : Int)) = ((code - s / 2 : Nat) : Int) by omega)
    have HMUL := Lib.hid hmul
    have HRAW := Lib.hid hraw
    have HL := Lib.hid hl
    clear hf hraw hgb hbo hmul hc hl
    unfold dv
    simp only
    go_enter Try.func29, Try.ntmps29
    go_wp2_with fail
    rw [HMUL.out, HSUB.out]
    refine (wide_any ⟨rest, code - s / 2, s / 2, bad⟩ HRAW.out HL.out _).mono ?_
    rintro x w3 ⟨rfl, hb3⟩
    obtain ⟨k1, hbw⟩ := behind4 hb3
    obtain ⟨hq0, hq1, hq2, hq3, hg0, hg1, hg2, hg3, hqlt⟩ := four k1
    have HBW := Lib.hid hbw
    clear hb3 hbw k1 hd hge
    generalize hd3 : wide ⟨rest, code - s / 2, s / 2, bad⟩ = d3 at *
    have HD3 := Lib.hid hd3
    clear hd3
    unfold dv
    go_wp2
    refine bodyPost_ret (v := .tuple #[dv d3, .int .i64 1]) ?_ rfl ⟨by rw [HD3.out]; rfl, laid4 HBW.out _ _ _ _⟩
    simp [results, Try.results29, go_sem, hq0, hq1, hq2, hq3, dv]
set_option maxHeartbeats 400000 in
theorem where_any (d : Dec) (hf : FineD d) (c : Nat) (h1 : 1 ≤ c) (h2 : c ≤ 65536) (w : World) :
    Calls Try.prog 30 #[dv d, .int .u64 (c : Int)] w fun x w' => x = .returned (.int .u64 ((d.whereIn c : Nat) : Int)) ∧ Below w.heap.size w w' := by
  obtain ⟨rest, code, s, bad⟩ := d
  have hsz : s < 4294967296 := hf.2.1
  have hcz : code < 4294967296 := hf.2.2
  have hs0 : 16777216 ≤ s := hf.1
  have hr : 1 ≤ s / c := by rw [Nat.le_div_iff_mul_le (by omega)]; omega
  have hw : (Dec.mk rest code s bad).whereIn c = min (code / (s / c)) (c - 1) := rfl
  have hq : ((s : Int) / (c : Int)) = ((s / c : Nat) : Int) := by simp
  have hq2 : ((code : Int) / ((s : Int) / (c : Int))) = ((code / (s / c) : Nat) : Int) := by rw [hq]; simp
  have hrl : s / c ≤ s := Nat.div_le_self _ _
  have hdl : code / (s / c) ≤ code := Nat.div_le_self _ _
  have e1 : ((c : Int) == 0) = false := by rw [beq_eq_false_iff_ne]; omega
  have e2 : IntKind.u64.wrap ((s : Int) / (c : Int)) = (s : Int) / (c : Int) := by rw [hq, IntKind.wrap_u64]; omega
  have e3 : ((s : Int) / (c : Int) == 0) = false := by rw [hq, beq_eq_false_iff_ne]; omega
  have e4 : IntKind.u64.wrap ((code : Int) / ((s : Int) / (c : Int))) = (code : Int) / ((s : Int) / (c : Int)) := by rw [hq2, IntKind.wrap_u64]; omega
  have HW := Lib.hid hw
  have HQ := Lib.hid hq2
  have e5 : (0 : Int) ≤ (s : Int) / (c : Int) := by rw [hq]; exact Int.natCast_nonneg _
  have e6 : (0 : Int) ≤ (code : Int) / ((s : Int) / (c : Int)) := by rw [hq2]; exact Int.natCast_nonneg _
  have e7 : (1 : Int) ≤ (s : Int) / (c : Int) := by rw [hq]; omega
  clear hf hw hq hq2 hs0
  unfold dv
  simp only
  go_enter Try.func30, Try.ntmps30
  go_wp2
  go_quiet (fail)
  rw [HQ.out]
  clear e1 e2 e3 e4 e5 e6 e7
  generalize code / (s / c) = q at *
  by_cases hlt : c - 1 < q
  · have hd : decide ((c : Int) - 1 < (q : Int)) = true := by rw [decide_eq_true_iff]; omega
    go_wp2
    go_ret
    exact ⟨ret_int (by rw [HW.out, Nat.min_eq_right (by omega)]; omega), below_drewN ((Below.refl _ _).alloc (Nat.le_refl _) _) nq⟩
  · have hd : decide ((c : Int) - 1 < (q : Int)) = false := by rw [decide_eq_false_iff_not]; omega
    go_wp2
    go_ret
    exact ⟨ret_int (by rw [HW.out, Nat.min_eq_left (by omega)]), below_drewN ((Below.refl _ _).alloc (Nat.le_refl _) _) nq⟩
theorem take_code {code x : Nat} (hx : x < 4294967296) : ((code : Int) + 4294967296 - (x : Int)) % 4294967296 = (((code + 4294967296 - x % 4294967296) % 4294967296 : Nat) : Int) := by omega
set_option maxHeartbeats 400000 in
theorem take_any (d : Dec) (hf : FineD d) (hl : d.rest.length ≤ 1000000) (a b c : Nat) (h1 : 1 ≤ b) (h2 : a + b ≤ c) (h3 : c ≤ 65536) (w : World) :
    Calls Try.prog 31 #[dv d, .int .u64 (a : Int), .int .u64 (b : Int), .int .u64 (c : Int)] w (GivesD w (d.take a b c)) := by
  obtain ⟨rest, code, s, bad⟩ := d
  have hsz : s < 4294967296 := hf.2.1
  have hcz : code < 4294967296 := hf.2.2
  have hraw := take_raw hf h1 h2 h3
  have hbe : (Dec.mk rest code s bad).take a b c = wide ⟨rest, (code + 4294967296 - s / c * a % 4294967296) % 4294967296, s / c * b, bad⟩ := rfl
  rw [hbe]
  simp only at hraw hl
  have hle : s / c * (a + b) ≤ s := Nat.le_trans (Nat.mul_le_mul_left _ h2) (Nat.div_mul_le_self _ _)
  rw [Nat.mul_add] at hle
  have hdiv : ((s : Int) / (c : Int)) = ((s / c : Nat) : Int) := by simp
  have ha : ((s / c : Nat) : Int) * (a : Int) = ((s / c * a : Nat) : Int) := by simp
  have hb : ((s / c : Nat) : Int) * (b : Int) = ((s / c * b : Nat) : Int) := by simp
  have hc1 : (1 : Int) ≤ (c : Int) := by omega
  have hcz0 : ((c : Int) == 0) = false := by rw [beq_eq_false_iff_ne]; omega
  have hq2 : (0 : Int) ≤ (s : Int) / (c : Int) := by rw [hdiv]; exact Int.natCast_nonneg _
  have hq3 : (s : Int) / (c : Int) < 4294967296 := by rw [hdiv]; exact Int.ofNat_lt.2 (Nat.lt_of_le_of_lt (Nat.div_le_self s c) hsz)
  have hm0 : (0 : Int) ≤ (s : Int) / (c : Int) * (a : Int) := by rw [hdiv, ha]; exact Int.natCast_nonneg _
  have hm1 : (s : Int) / (c : Int) * (a : Int) < 4294967296 := by rw [hdiv, ha]; omega
  have hm2 : (0 : Int) ≤ (s : Int) / (c : Int) * (b : Int) := by rw [hdiv, hb]; exact Int.natCast_nonneg _
  have hm3 : (s : Int) / (c : Int) * (b : Int) < 4294967296 := by rw [hdiv, hb]; omega
  have HMA := Lib.hid (show (s : Int) / (c : Int) * (a : Int) = ((s / c * a : Nat) : Int) by rw [hdiv, ha])
  have HMB := Lib.hid (show (s : Int) / (c : Int) * (b : Int) = ((s / c * b : Nat) : Int) by rw [hdiv, hb])
  have HAL := Lib.hid (show s / c * a < 4294967296 by omega)
  have HRAW := Lib.hid hraw
  have HL := Lib.hid hl
  clear hf hraw hbe hdiv hle ha hb hl
  unfold dv
  simp only
  go_enter Try.func31, Try.ntmps31
  go_wp2_with fail
  rw [HMA.out, HMB.out, take_code HAL.out]
  refine (wide_any ⟨rest, (code + 4294967296 - s / c * a % 4294967296) % 4294967296, s / c * b, bad⟩ HRAW.out HL.out _).mono ?_
  rintro x w3 ⟨rfl, hb3⟩
  obtain ⟨k1, hbw⟩ := behind4 hb3
  obtain ⟨hq0, hq1, hq2', hq3', hg0, hg1, hg2, hg3, hqlt⟩ := four k1
  have HBW := Lib.hid hbw
  clear hb3 hbw k1 hm0 hm1 hm2 hm3 hq2 hq3
  generalize hd3 : wide ⟨rest, (code + 4294967296 - s / c * a % 4294967296) % 4294967296, s / c * b, bad⟩ = d3 at *
  have HD3 := Lib.hid hd3
  clear hd3
  unfold dv
  go_wp2
  refine bodyPost_ret (v := dv d3) ?_ rfl ⟨rfl, laid4 HBW.out _ _ _ _⟩
  simp [results, Try.results31, go_sem, hq0, hq1, hq2', hq3', dv]
/-- What Read's memory holds behind k bytes of Code. -/
def Reading (w : World) (d : Dec) (wr : World) : Prop := CellsD wr (w.heap.size + 1) d ∧ d.rest.length ≤ 1000000 ∧
  wr.heap[w.heap.size]? = some (.cells #[.string ⟨#[]⟩, .int .u64 0, .int .u64 0, .bool false] 58 (0, 0)) ∧ Below w.heap.size w wr
theorem next_of (d : Dec) {v : Value} (hv : v = dv d) (hl : d.rest.length ≤ 1000000) (w : World) : Calls Try.prog 56 #[v] w (GivesN w d.next d.byte) := by
  subst hv; exact next_any d hl w
/-- Four cells are written anew. -/
theorem reading_of {w w1 : World} {d : Dec} {a b c e : Value} (k1 : w1.heap[w.heap.size + 1]? = some (.cells #[a, b, c, e] 58 (0, 0)))
    (k0 : w1.heap[w.heap.size]? = some (.cells #[.string ⟨#[]⟩, .int .u64 0, .int .u64 0, .bool false] 58 (0, 0))) (hb : Below w.heap.size w w1) (hl : d.rest.length ≤ 1000000) :
    Reading w d ((((w1.setCell ⟨w.heap.size + 1, 0, none⟩ (.string ⟨d.rest.toArray⟩)).setCell ⟨w.heap.size + 1, 1, none⟩ (.int .u64 (d.code : Int))).setCell ⟨w.heap.size + 1, 2, none⟩ (.int .u64 (d.size : Int))).setCell ⟨w.heap.size + 1, 3, none⟩ (.bool d.bad)) := by
  have s1 := heap_setCell_same w1 (w.heap.size + 1) 0 _ _ (.string ⟨d.rest.toArray⟩) k1
  have s2 := heap_setCell_same _ (w.heap.size + 1) 1 _ _ (.int .u64 (d.code : Int)) s1
  have s3 := heap_setCell_same _ (w.heap.size + 1) 2 _ _ (.int .u64 (d.size : Int)) s2
  have s4 := heap_setCell_same _ (w.heap.size + 1) 3 _ _ (.bool d.bad) s3
  refine ⟨?_, hl, ?_, ?_⟩
  · unfold CellsD
    rw [s4]
    rfl
  · rw [Below.heap_setCell _ _ _ _ (by simp), Below.heap_setCell _ _ _ _ (by simp), Below.heap_setCell _ _ _ _ (by simp), Below.heap_setCell _ _ _ _ (by simp)]
    exact k0
  · exact laid4 hb _ _ _ _
theorem laid0 {w w3 : World} (hb : Below w.heap.size w w3) (a b c d : Value) : Below w.heap.size w ((((w3.setCell ⟨w.heap.size, 0, none⟩ a).setCell ⟨w.heap.size, 1, none⟩ b).setCell ⟨w.heap.size, 2, none⟩ c).setCell ⟨w.heap.size, 3, none⟩ d) :=
  (((hb.setCell (p := ⟨w.heap.size, 0, none⟩) (Nat.le_refl _) _).setCell (p := ⟨w.heap.size, 1, none⟩) (Nat.le_refl _) _).setCell (p := ⟨w.heap.size, 2, none⟩) (Nat.le_refl _) _).setCell (p := ⟨w.heap.size, 3, none⟩) (Nat.le_refl _) _
theorem reading_step {w w1 : World} {d dk dn : Dec} {bt : Nat} (hd : d = { dn with code := 256 * dk.code + bt }) (k1 : CellsD w1 (w.heap.size + 1) dk)
    (k0 : w1.heap[w.heap.size]? = some (.cells #[.string ⟨#[]⟩, .int .u64 0, .int .u64 0, .bool false] 58 (0, 0))) (hb : Below w.heap.size w w1) (hc : dn.code = dk.code) (hl : dn.rest.length ≤ 1000000) :
    Reading w d (((((w1.setCell ⟨w.heap.size + 1, 0, none⟩ (.string ⟨dn.rest.toArray⟩)).setCell ⟨w.heap.size + 1, 1, none⟩ (.int .u64 (dn.code : Int))).setCell ⟨w.heap.size + 1, 2, none⟩ (.int .u64 (dn.size : Int))).setCell ⟨w.heap.size + 1, 3, none⟩ (.bool dn.bad)).setCell ⟨w.heap.size + 1, 1, none⟩ (.int .u64 (256 * (dn.code : Int) + (bt : Int)))) := by
  obtain ⟨c1, c2, c3, c4⟩ := reading_of (d := dn) k1 k0 hb hl
  unfold CellsD at c1
  have e1 : (256 * (dn.code : Int) + (bt : Int)) = ((256 * dk.code + bt : Nat) : Int) := by rw [hc]; omega
  rw [e1]
  have s5 := heap_setCell_same _ (w.heap.size + 1) 1 _ _ (.int .u64 ((256 * dk.code + bt : Nat) : Int)) c1
  subst hd
  refine ⟨?_, hl, ?_, ?_⟩
  · unfold CellsD
    rw [s5]
    rfl
  · rw [Below.heap_setCell _ _ _ _ (by simp)]; exact c3
  · exact c4.setCell (p := ⟨w.heap.size + 1, 1, none⟩) (by simp) _
set_option maxRecDepth 100000 in
set_option maxHeartbeats 1000000 in
theorem read_any (s : List UInt8) (hl : s.length ≤ 1000000) (w : World) : Calls Try.prog 28 #[.string ⟨s.toArray⟩] w (GivesD w (Dec.read s)) := by
  have HL := Lib.hid (show (Dec.fresh s).rest.length ≤ 1000000 from hl)
  clear hl
  go_enter Try.func28, Try.ntmps28
  go_wp2_with fail
  refine (next_of (Dec.fresh s) (by simp [dv, Dec.fresh]) HL.out _).mono ?_
  rintro x w1 ⟨rfl, hb1⟩
  obtain ⟨k1, hbw⟩ := behind4 hb1
  have k0 : w1.heap[w.heap.size]? = some (.cells #[.string ⟨#[]⟩, .int .u64 0, .int .u64 0, .bool false] 58 (0, 0)) := by
    rw [hb1.block _ (by simp; omega), Below.heap_alloc _ _ _ (by simp)]
    exact heap_alloc_new _ _
  obtain ⟨hp0, hp1, hp2, hp3, hf0, hf1, hf2, hf3, hplt⟩ := four k1
  have H0 := Lib.hid (reading_of (d := (Dec.fresh s).next) k1 k0 hbw (Nat.le_trans (next_len _) HL.out))
  have HCZ := Lib.hid (show (Dec.fresh s).next.code = 0 by rw [next_code]; rfl)
  have HRD := Lib.hid (show Dec.read s = if (Dec.fresh s).byte = 0 then readN 4 (Dec.fresh s).next else { readN 4 (Dec.fresh s).next with bad := true } from rfl)
  have hbb := byte_lt (Dec.fresh s)
  clear hb1 hbw k1 k0 HL
  generalize (Dec.fresh s).next = d1 at *
  generalize (Dec.fresh s).byte = b0 at *
  unfold dv
  go_wp2_with fail
  clear hp0 hp1 hp2 hp3 hf0 hf1 hf2 hf3 hplt
  go_loopw [5, 6] (fun i _ wr => ∃ k : Nat, k ≤ 4 ∧ i = .int .i64 k ∧ Reading w (readN k d1) wr) (fun i _ _ => 4 - (intOf i).toNat)
  case atStart => exact ⟨0, by omega, rfl, H0.out⟩
  case round =>
    obtain ⟨k, hk, rfl, hrd⟩ := hrel
    obtain ⟨hc, hlen, h0, hbw⟩ := hrd
    obtain ⟨hp0, hp1, hp2, hp3, hf0, hf1, hf2, hf3, hplt⟩ := four hc
    by_cases hlt : k < 4
    · have hcode : (readN k d1).code < 4294967296 := Nat.lt_of_lt_of_le (readN_code k d1 HCZ.out) (by have := Nat.pow_le_pow_right (n := 256) (by omega) (show k ≤ 4 by omega); omega)
      have HC := Lib.hid hc
      have HLEN := Lib.hid hlen
      have H0' := Lib.hid h0
      have HBW := Lib.hid hbw
      have HLT := Lib.hid hplt
      have HSTEP := Lib.hid (show readN (k + 1) d1 = stepD (readN k d1) from rfl)
      clear hc hlen h0 hbw
      go_wp2_with fail
      refine (next_any (readN k d1) HLEN.out wr).mono ?_
      rintro x w3 ⟨rfl, hb3⟩
      have k1 : CellsD w3 (w.heap.size + 1) (readN k d1) := (hb3.block _ HLT.out).trans HC.out
      have k0 := (hb3.block _ (by have := HLT.out; omega)).trans H0'.out
      have hb := HBW.out.trans (hb3.mono HBW.out.size)
      clear hp0 hp1 hp2 hp3 hf0 hf1 hf2 hf3 hplt hb3
      obtain ⟨hp0, hp1, hp2, hp3, hf0, hf1, hf2, hf3, hplt⟩ := four k1
      have HK1 := Lib.hid k1
      have HK0 := Lib.hid k0
      have HB := Lib.hid hb
      have hbl := byte_lt (readN k d1)
      have hcn : (readN k d1).next.code < 4294967296 := by rw [next_code]; exact hcode
      have HNC := Lib.hid (next_code (readN k d1))
      have HNL := Lib.hid (Nat.le_trans (next_len (readN k d1)) HLEN.out)
      have HSD := Lib.hid (show stepD (readN k d1) = { (readN k d1).next with code := 256 * (readN k d1).code + (readN k d1).byte } from rfl)
      clear k1 k0 hb hcode
      generalize readN k d1 = dk at *
      generalize dk.next = dn at *
      generalize dk.byte = bt at *
      unfold dv
      go_wp2
      go_roundw
      case rel => exact ⟨k + 1, by omega, by go_num, by rw [HSTEP.out]; exact reading_step HSD.out HK1.out HK0.out HB.out HNC.out HNL.out⟩
      case measure => simp [intOf]; omega
    · obtain rfl : k = 4 := by omega
      have HBW := Lib.hid hbw
      have hlt0 : w.heap.size < wr.heap.size := by omega
      obtain ⟨hq0, hq1, hq2, hq3, hg0, hg1, hg2, hg3, hqlt⟩ := four h0
      clear hc hlen h0 hbw hk hlt
      generalize readN 4 d1 = d4 at *
      by_cases hz : b0 = 0
      · have hn : ((b0 : Int) != 0) = false := by rw [hz]; rfl
        have HZ := Lib.hid hz
        clear hz
        go_wp2
        refine bodyPost_ret (v := dv d4) ?_ rfl ⟨by rw [HRD.out, if_pos HZ.out], laid0 HBW.out _ _ _ _⟩
        simp [results, Try.results28, go_sem, hq0, hq1, hq2, hq3, dv]
      · have hn : ((b0 : Int) != 0) = true := by rw [bne_iff_ne]; omega
        have HZ := Lib.hid hz
        clear hz
        go_wp2
        refine bodyPost_ret (v := dv { d4 with bad := true }) ?_ rfl ⟨by rw [HRD.out, if_neg HZ.out], laid0 (HBW.out.setCell (p := ⟨w.heap.size + 1, 3, none⟩) (by simp) _) _ _ _ _⟩
        simp [results, Try.results28, go_sem, hq0, hq1, hq2, hq3, dv]
end Go.Proofs.Ytocoehjggkkoeaa.Rc
