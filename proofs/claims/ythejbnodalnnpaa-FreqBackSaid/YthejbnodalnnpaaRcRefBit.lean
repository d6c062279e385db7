/-
  Contracts of the reference's encoder of layer 3, more: Bit, Direct, Part.
-/
import Derived.Test.YthejbnodalnnpaaRcRef
namespace Go.Proofs.Ythejbnodalnnpaa.Rc
open Go.RowKit
theorem two {w : World} {X : Nat} {a b : Value} {t : TypeId} (h : w.heap[X]? = some (.cells #[a, b] t (0, 0))) :
    w.cell? ⟨X, 0, none⟩ = some a ∧ w.cell? ⟨X, 1, none⟩ = some b ∧ w.frozen? ⟨X, 0, none⟩ = false ∧ w.frozen? ⟨X, 1, none⟩ = false ∧ X < w.heap.size :=
  ⟨by simp [World.cell?, h], by simp [World.cell?, h], by simp [World.frozen?, h], by simp [World.frozen?, h], lt_of_heap h⟩
/-- The reference's encoder and a probability, handed back. -/
def Gives2 (w : World) (v0 : Value) (e : Enc) (p : Nat) (x : Ending) (w' : World) : Prop := ∃ v, x = .returned (.tuple #[.agg #[v, .int .u64 (e.size : Int)], .int .u64 (p : Int)]) ∧ Row w' v (be (e.turns + 4) e.low) ∧ Below w.heap.size w w' ∧ Moved w v0 v
theorem moved_up {w w1 : World} {g0 n0 cap0 g n cap : Nat} (hs : w.heap.size ≤ w1.heap.size) (h : Moved w1 (.slice (some ⟨g0, 0, none⟩) n0 cap0) (.slice (some ⟨g, 0, none⟩) n cap)) : Moved w (.slice (some ⟨g0, 0, none⟩) n0 cap0) (.slice (some ⟨g, 0, none⟩) n cap) := by
  rcases of_moved h with h | h
  · exact moved_of (.inl h)
  · exact moved_of (.inr (by omega))
theorem moved_new {w w1 : World} {v0 : Value} {g1 n1 cap1 g n cap : Nat} (hs : w.heap.size ≤ w1.heap.size) (hg : w.heap.size ≤ g1) (h : Moved w1 (.slice (some ⟨g1, 0, none⟩) n1 cap1) (.slice (some ⟨g, 0, none⟩) n cap)) : Moved w v0 (.slice (some ⟨g, 0, none⟩) n cap) := by
  rcases of_moved h with h | h
  · exact .inr fun k hk => by simp [Value.ownBlock] at hk; omega
  · exact .inr fun k hk => by simp [Value.ownBlock] at hk; omega
theorem row_ne {w : World} {g n cap X : Nat} {l : List UInt8} {cs : Array Value} {t : TypeId} (h : Row w (.slice (some ⟨g, 0, none⟩) n cap) l) (hc : w.heap[X]? = some (.cells cs t (0, 0))) (ht : t ≠ 5) : g ≠ X := by
  rcases h.2 with ⟨e, _⟩ | ⟨g', cap', cur, e, _, hg, _⟩
  · simp at e
  · simp only [Value.slice.injEq, Option.some.injEq, Addr.mk.injEq, and_true] at e
    rintro rfl
    rw [e.1, hg] at hc
    simp only [Option.some.injEq, Obj.cells.injEq] at hc
    exact ht hc.2.1.symm
/-- Two cells of a block of another type are written: the row is as it was. -/
theorem laid {w w3 : World} {g n cap : Nat} {l : List UInt8} {cs : Array Value} {t : TypeId} (h : Row w3 (.slice (some ⟨g, 0, none⟩) n cap) l) (hc : w3.heap[w.heap.size + 1]? = some (.cells cs t (0, 0))) (ht : t ≠ 5) (hb : Below w.heap.size w w3) (a b : Value) :
    Row ((w3.setCell ⟨w.heap.size + 1, 0, none⟩ a).setCell ⟨w.heap.size + 1, 1, none⟩ b) (.slice (some ⟨g, 0, none⟩) n cap) l ∧ Below w.heap.size w ((w3.setCell ⟨w.heap.size + 1, 0, none⟩ a).setCell ⟨w.heap.size + 1, 1, none⟩ b) := by
  have hne := row_ne h hc ht
  refine ⟨h.frame (own := fun j => j = w.heap.size + 1) (((Frame.refl (fun j => j = w.heap.size + 1) w3).setCell (p := ⟨w.heap.size + 1, 0, none⟩) (.inl rfl) _).setCell (p := ⟨w.heap.size + 1, 1, none⟩) (.inl rfl) _) (fun j hj e => by simp [Value.ownBlock] at hj; omega), ?_⟩
  exact (hb.setCell (p := ⟨w.heap.size + 1, 0, none⟩) (by simp) _).setCell (p := ⟨w.heap.size + 1, 1, none⟩) (by simp) _
/-- The first block's cells are written: the row, and the block behind it, are as they were. -/
theorem kept {w w1 : World} {g n cap : Nat} {l : List UInt8} {cs ds : Array Value} {t : TypeId} (h : Row w1 (.slice (some ⟨g, 0, none⟩) n cap) l) (hc : w1.heap[w.heap.size]? = some (.cells cs t (0, 0))) (hd : w1.heap[w.heap.size + 1]? = some (.cells ds t (0, 0))) (ht : t ≠ 5) (hb : Below w.heap.size w w1) (a b : Value) :
    Row ((w1.setCell ⟨w.heap.size, 0, none⟩ a).setCell ⟨w.heap.size, 1, none⟩ b) (.slice (some ⟨g, 0, none⟩) n cap) l ∧ ((w1.setCell ⟨w.heap.size, 0, none⟩ a).setCell ⟨w.heap.size, 1, none⟩ b).heap[w.heap.size + 1]? = some (.cells ds t (0, 0)) ∧ Below w.heap.size w ((w1.setCell ⟨w.heap.size, 0, none⟩ a).setCell ⟨w.heap.size, 1, none⟩ b) := by
  have hne := row_ne h hc ht
  have hF : Frame (fun j => j = w.heap.size) w1 ((w1.setCell ⟨w.heap.size, 0, none⟩ a).setCell ⟨w.heap.size, 1, none⟩ b) := ((Frame.refl (fun j => j = w.heap.size) w1).setCell (p := ⟨w.heap.size, 0, none⟩) (.inl rfl) _).setCell (p := ⟨w.heap.size, 1, none⟩) (.inl rfl) _
  refine ⟨h.frame hF (fun j hj e => by simp [Value.ownBlock] at hj; omega), (hF.block _ (lt_of_heap hd) (by omega)).trans hd, ?_⟩
  exact (hb.setCell (p := ⟨w.heap.size, 0, none⟩) (Nat.le_refl _) _).setCell (p := ⟨w.heap.size, 1, none⟩) (Nat.le_refl _) _
theorem kept1 {w w1 : World} {g n cap : Nat} {l : List UInt8} {cs ds : Array Value} {t : TypeId} (h : Row w1 (.slice (some ⟨g, 0, none⟩) n cap) l) (hc : w1.heap[w.heap.size]? = some (.cells cs t (0, 0))) (hd : w1.heap[w.heap.size + 1]? = some (.cells ds t (0, 0))) (ht : t ≠ 5) (hb : Below w.heap.size w w1) (a : Value) :
    Row (w1.setCell ⟨w.heap.size, 0, none⟩ a) (.slice (some ⟨g, 0, none⟩) n cap) l ∧ (w1.setCell ⟨w.heap.size, 0, none⟩ a).heap[w.heap.size + 1]? = some (.cells ds t (0, 0)) ∧ Below w.heap.size w (w1.setCell ⟨w.heap.size, 0, none⟩ a) := by
  have hne := row_ne h hc ht
  have hF : Frame (fun j => j = w.heap.size) w1 (w1.setCell ⟨w.heap.size, 0, none⟩ a) := (Frame.refl (fun j => j = w.heap.size) w1).setCell (p := ⟨w.heap.size, 0, none⟩) (.inl rfl) _
  exact ⟨h.frame hF (fun j hj e => by simp [Value.ownBlock] at hj; omega), (hF.block _ (lt_of_heap hd) (by omega)).trans hd, hb.setCell (p := ⟨w.heap.size, 0, none⟩) (Nat.le_refl _) _⟩
/-- Behind a call that wrote nothing that was there: the two blocks that were laid ahead of it. -/
theorem behind {w w3 : World} {a b c d : Value} {t : TypeId} (h : Below ((w.alloc (.cells #[a, b] t)).alloc (.cells #[c, d] t)).heap.size ((w.alloc (.cells #[a, b] t)).alloc (.cells #[c, d] t)) w3) :
    w3.heap[w.heap.size]? = some (.cells #[a, b] t (0, 0)) ∧ w3.heap[w.heap.size + 1]? = some (.cells #[c, d] t (0, 0)) ∧ w.heap.size + 2 ≤ w3.heap.size ∧ Below w.heap.size w w3 := by
  have hs : ((w.alloc (.cells #[a, b] t)).alloc (.cells #[c, d] t)).heap.size = w.heap.size + 2 := by simp
  have h0 := h.size
  rw [hs] at h h0
  refine ⟨?_, ?_, h0, ?_⟩
  · rw [h.block _ (by omega), Below.heap_alloc _ _ _ (by simp)]
    exact heap_alloc_new w _
  · rw [h.block _ (by omega)]
    have := heap_alloc_new (w.alloc (.cells #[a, b] t)) (.cells #[c, d] t)
    rw [World.size_alloc] at this
    exact this
  · exact (((Below.refl _ _).alloc (Nat.le_refl _) _).alloc (by simp) _).trans (h.mono (by omega))
set_option maxHeartbeats 400000 in
theorem part_any {w : World} {v : Value} {e : Enc} (h : Row w v (be (e.turns + 4) e.low)) (hf : Fine e) (ht : e.turns ≤ 999990) (a b c : Nat) (h1 : 1 ≤ b) (h2 : a + b ≤ c) (h3 : c ≤ 65536) :
    Calls Try.prog 63 #[.agg #[v, .int .u64 (e.size : Int)], .int .u64 (a : Int), .int .u64 (b : Int), .int .u64 (c : Int)] w (Gives w v (e.part a b c)) := by
  obtain ⟨lo, s, t⟩ := e
  simp only at h ht
  obtain ⟨g, cap, hv⟩ := h.form (by rw [be_length]; omega)
  rw [be_length] at hv
  subst hv
  have hraw := part_raw hf h1 h2 h3
  simp only at hraw
  have hsz : s < 4294967296 := hf.2.1
  have hbe : (Enc.mk lo s t).part a b c = widen ⟨lo + s / c * a, s / c * b, t⟩ := rfl
  rw [hbe]
  have hle : s / c * (a + b) ≤ s := Nat.le_trans (Nat.mul_le_mul_left _ h2) (Nat.div_mul_le_self _ _)
  rw [Nat.mul_add] at hle
  have hdiv : ((s : Int) / (c : Int)) = ((s / c : Nat) : Int) := by simp
  have HDIV := Lib.hid hdiv
  have HA := Lib.hid (show ((s / c : Nat) : Int) * (a : Int) = ((s / c * a : Nat) : Int) by simp)
  have HB := Lib.hid (show ((s / c : Nat) : Int) * (b : Int) = ((s / c * b : Nat) : Int) by simp)
  have HBB := Lib.hid (show s / c * a < 4294967296 by omega)
  have HBC := Lib.hid (show s / c * b < 4294967296 by omega)
  have HRW := Lib.hid h
  have HRAW := Lib.hid hraw
  have hc1 : (1 : Int) ≤ (c : Int) := by omega
  have hcz : ((c : Int) == 0) = false := by rw [beq_eq_false_iff_ne]; omega
  have hq2 : (0 : Int) ≤ (s : Int) / (c : Int) := by rw [hdiv]; exact Int.natCast_nonneg _
  have hq3 : (s : Int) / (c : Int) < 4294967296 := by rw [hdiv]; exact Int.ofNat_lt.2 (Nat.lt_of_le_of_lt (Nat.div_le_self s c) hsz)
  have hm0 : (0 : Int) ≤ (s : Int) / (c : Int) * (a : Int) := by rw [hdiv, HA.out]; omega
  have hm1 : (s : Int) / (c : Int) * (a : Int) < 18446744073709551616 := by rw [hdiv, HA.out]; omega
  have hm2 : (0 : Int) ≤ (s : Int) / (c : Int) * (b : Int) := by rw [hdiv, HB.out]; omega
  have hm3 : (s : Int) / (c : Int) * (b : Int) < 18446744073709551616 := by rw [hdiv, HB.out]; omega
  clear h hf hraw hbe hdiv hle
  go_enter Try.func63, Try.ntmps63
  go_wp2_with fail
  have HMA := Lib.hid (show (s : Int) / (c : Int) * (a : Int) = ((s / c * a : Nat) : Int) by rw [HDIV.out, HA.out])
  have HMB := Lib.hid (show (s : Int) / (c : Int) * (b : Int) = ((s / c * b : Nat) : Int) by rw [HDIV.out, HB.out])
  rw [HMA.out]
  refine (add_any (k := t + 4) (L := lo) (World.ownsRow.alloc (World.ownsRow.alloc HRW.out _) _) (by omega) (by omega) _ HBB.out).mono ?_
  rintro x w1 ⟨g1, cap1, rfl, hrow1, hb1, hg1⟩
  have HG1 : Hid (w.heap.size ≤ g1) := Lib.hid (by simp at hg1; omega)
  rw [be_length] at hrow1 ⊢
  obtain ⟨k0, k1, k2, hbw⟩ := behind hb1
  obtain ⟨hp0, hp1, hpf0, hpf1, hplt⟩ := two k0
  have HR1 := Lib.hid hrow1
  have HBW := Lib.hid hbw
  have HK0 := Lib.hid k0
  have HK1 := Lib.hid k1
  clear hrow1 hb1 hbw k0 k1
  go_wp2_with fail
  rw [HMB.out]
  obtain ⟨d1, d2, d3⟩ := kept HR1.out HK0.out HK1.out (by decide) HBW.out (.slice (some ⟨g1, 0, none⟩) (t + 4) cap1) (.int .u64 ((s / c * b : Nat) : Int))
  generalize (w1.setCell ⟨w.heap.size, 0, none⟩ (.slice (some ⟨g1, 0, none⟩) (t + 4) cap1)).setCell ⟨w.heap.size, 1, none⟩ (.int .u64 ((s / c * b : Nat) : Int)) = w2 at *
  refine (widen_any (e := ⟨lo + s / c * a, s / c * b, t⟩) d1 HRAW.out (by simp only; omega)).mono ?_
  rintro x w3 ⟨v3, rfl, hrow3, hb3, hmv3⟩
  have k1 := (hb3.block _ (lt_of_heap d2)).trans d2
  have hbw := d3.trans (hb3.mono d3.size)
  obtain ⟨hq0, hq1, hf0, hf1, hlt⟩ := two k1
  have HR3 := Lib.hid hrow3
  have HMV := Lib.hid hmv3
  have HSZ := Lib.hid d3.size
  clear hmv3
  have HBW3 := Lib.hid hbw
  have HK3 := Lib.hid k1
  clear hrow3 hb3 hbw k1 d1 d2 d3 hp0 hp1 hpf0 hpf1 hplt hg1 k2 hm0 hm1 hm2 hm3 hq2 hq3
  generalize widen ⟨lo + s / c * a, s / c * b, t⟩ = e3 at *
  obtain ⟨g3, cap3, hv3⟩ := HR3.out.form (by rw [be_length]; omega)
  rw [be_length] at hv3
  subst hv3
  go_wp2
  obtain ⟨c1, c2⟩ := laid HR3.out HK3.out (by decide) HBW3.out (.slice (some ⟨g3, 0, none⟩) (e3.turns + 4) cap3) (.int .u64 (e3.size : Int))
  refine bodyPost_ret (v := .agg #[.slice (some ⟨g3, 0, none⟩) (e3.turns + 4) cap3, .int .u64 (e3.size : Int)]) ?_ rfl ⟨_, rfl, c1, c2, moved_new HSZ.out HG1.out HMV.out⟩
  simp [results, Try.results63, go_sem, hq0, hq1]
end Go.Proofs.Ythejbnodalnnpaa.Rc
