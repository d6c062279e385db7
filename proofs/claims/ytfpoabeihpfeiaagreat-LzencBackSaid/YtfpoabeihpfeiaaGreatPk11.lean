/-
  Layer 3's statements: a step that came in, its part; the encoder in lockstep with the reference's.
  Contracts of the reference's encoder of layer 3 (Low as all its bytes): each call returns what the plain mathematics says, and writes nothing that was there.
  Contracts of the reference's encoder of layer 3, more: Bit, Direct, Part.
  Layer 3's statements: the reference's encoder in a variable, arrays of probabilities, and all of them beside each other.
-/
import Derived.Test.YtfpoabeihpfeiaaGreatPk01
import Derived.Test.YtfpoabeihpfeiaaGreatPk03
import Derived.Deep.DeepCutAuto
import Derived.Deep.CutBlock
set_option maxRecDepth 100000
set_option maxHeartbeats 16000000
set_option linter.unusedVariables false
set_option linter.unusedSimpArgs false
open Go.Lib (hid)
section
namespace Go.Proofs.YtfpoabeihpfeiaaGreat.Rc
open Go.RowKit
structure St where
 what : Nat
 which : Nat
 v : Nat
 n : Nat
 total : Nat
def St.Ok (x : St) : Prop := x.what < 256 /\ x.which < 256 /\ x.v < 4294967296 /\ x.n < 256 /\ x.total < 65536
def St.C (x : St) : Nat := 1 + x.total
def St.A (x : St) : Nat := x.v % x.C
def St.B (x : St) : Nat := 1 + x.v / 7 % (x.C - x.A)
theorem St.parts {x : St} (h : x.Ok) : 1 <= x.B /\ x.A + x.B <= x.C /\ x.C <= 65536 /\ 1 <= x.C := by
 have h5 := h.2.2.2.2
 have hC : x.C = 1 + x.total := rfl
 have hA : x.A < x.C := Nat.mod_lt _ (by omega)
 have hB : x.v / 7 % (x.C - x.A) < x.C - x.A := Nat.mod_lt _ (by omega)
 have hBe : x.B = 1 + x.v / 7 % (x.C - x.A) := rfl
 omega
def IsStep (w : World) (b o : Nat) (x : St) : Prop :=
 w.cell? ⟨b, o, none⟩ = some (.int .u8 x.what) /\ w.cell? ⟨b, o + 1, none⟩ = some (.int .u8 x.which) /\ w.cell? ⟨b, o + 2, none⟩ = some (.int .u32 x.v) /\ w.cell? ⟨b, o + 3, none⟩ = some (.int .u8 x.n) /\ w.cell? ⟨b, o + 4, none⟩ = some (.int .u16 x.total) /\ x.Ok
def IsSteps (w : World) (a : Option Addr) (len : Nat) : Prop :=
 len <= maxLen /\ (len = 0 \/ ∃ b off, a = some ⟨b, off, none⟩ /\ b < w.heap.size /\ ∀ i, i < len -> ∃ x : St, IsStep w b (off + i * 5) x)
end Go.Proofs.YtfpoabeihpfeiaaGreat.Rc
end
section
namespace Go.Proofs.YtfpoabeihpfeiaaGreat.Rc
open Go.RowKit
theorem add_any {w : World} {v : Value} {k L : Nat} (h : Row w v (be k L)) (hk : 0 < k) (hk2 : k <= 1048576) (n : Nat) (hn : n < 4294967296) :
  Calls Tryz.prog 81 #[v, .int .u64 n] w (Fresh w (be k (L + n))) := by
 obtain ⟨g, cap, rfl⟩ := h.form (by rw [be_length]; exact hk)
 have hlt := h.lt
 have hrow := h
 rw [be_length] at hrow ⊢
 have HR := hid h
 clear h
 obtain ⟨i0, hi, hz0, hz1, hz2⟩ := info_parts info8
 go_enter Tryz.func81, Tryz.ntmps81
 have HN := hid (Row.news (Row.below HR.out (((Below.refl _ _).alloc (Nat.le_refl _) (.cells #[] 5))) (fun j hj => ownsRow_lt HR.out j hj)))
 have HL : Hid (((be k L).map byte).length = k * 1) := hid (by simp [be_length])
 have hb1 : 0 + k <= maxLen := by unfold maxLen; omega
 have hb2 : (0 + k) * 1 <= 140737488355328 := by omega
 clear hrow
 go_wp2_with (at_builtin; refine wpList_append_more _ rfl _ _ 43 rfl 5 i0 (.int .u8 0) 1 1 Tryz.underlying43 hi hz0 hz1 hz2 rfl (by decide) (.slice (some ⟨w.heap.size, 0, none⟩) 0 0) 0 [] rfl (row_empty w) ⟨g, 0, none⟩ k cap hk ((be k L).map byte) rfl HL.out HN.out (ones _) hb1 hb2 ?_; intro g2 cap2 w2 hown2 hgr2 hmv2; obtain ⟨hr2, hbl2, hg2⟩ := fresh_of HL.out hown2 hgr2 hmv2; have HR2 := hid hr2; have HB2 := hid hbl2; clear hown2 hgr2 hmv2 hr2 hbl2; rw [Nat.zero_add])
 go_loopw [1, 6, 7] (fun nv i _ wr => ∃ q : Nat, q <= k /\ i = .int .i64 ((q : Int) - 1) /\ nv = .int .u64 ((carry (k - q) L n : Nat) : Int) /\ Row wr (.slice (some ⟨g2, 0, none⟩) k cap2) (mix k (k - q) L n) /\ Below w.heap.size w wr) (fun _ i _ _ => (intOf i + 1).toNat)
 case atStart => exact ⟨k, Nat.le_refl _, rfl, by rw [Nat.sub_self, carry_zero], by rw [Nat.sub_self, mix_zero]; exact HR2.out, HB2.out⟩
 case round =>
  obtain ⟨q, hq, rfl, rfl, hrow, hbel⟩ := hrel
  cases q with
  | zero =>
   rw [Nat.sub_zero, mix_all] at hrow
   have HRw := hid hrow
   have HBl := hid hbel
   clear hrow hbel
   go_wp2
   go_ret
   exact ⟨g2, cap2, by rw [be_length]; rfl, by rw [be_length]; exact HRw.out, HBl.out, hg2⟩
  | succ p =>
   have hj : k - (p + 1) < k := by omega
   have hml := mix_length k (k - (p + 1)) L n (by omega)
   have hat := mix_at k (k - (p + 1)) L n hj
   have hset := mix_set k (k - (p + 1)) L n hj
   have hcs := carry_succ (k - (p + 1)) L n
   have hds := digit_sum (k - (p + 1)) L n
   have hcl := carry_le (k - (p + 1)) L n
   have hpp : k - 1 - (k - (p + 1)) = p := by omega
   have hkp : k - (p + 1) + 1 = k - p := by omega
   rw [hpp] at hat hset
   rw [hkp] at hset hcs
   have hcell : wr.cell? ⟨g2, p, none⟩ = some (byte (UInt8.ofNat (L / 256 ^ (k - (p + 1))))) := by
    have hrow' : wr.ownsRow 0 5 1 (.slice (some ⟨g2, 0, none⟩) k cap2) k ((mix k (k - (p + 1)) L n).map byte) := by have h9 := hrow; unfold Row at h9; rw [hml] at h9; exact h9
    rw [World.ownsRow.cellAt hrow' p (by omega)]
    simp [hat]
   have hfr : wr.frozen? ⟨g2, p, none⟩ = false := by
    have h9 := hrow; unfold Row at h9; rw [hml] at h9; exact World.ownsRow.frozenAt h9 p
   have hx : (UInt8.ofNat (L / 256 ^ (k - (p + 1)))).toNat = L / 256 ^ (k - (p + 1)) % 256 := by simp
   have hx2 : (UInt8.ofNat ((L + n) / 256 ^ (k - (p + 1)))).toNat = (carry (k - (p + 1)) L n + (UInt8.ofNat (L / 256 ^ (k - (p + 1)))).toNat) % 256 := by rw [hx, <- hds]; simp
   rw [<- hx] at hcs
   have hxl := (UInt8.ofNat (L / 256 ^ (k - (p + 1)))).toNat_lt
   generalize UInt8.ofNat (L / 256 ^ (k - (p + 1))) = xb at *
   generalize UInt8.ofNat ((L + n) / 256 ^ (k - (p + 1))) = yb at *
   generalize carry (k - (p + 1)) L n = c at *
   have hpI : ((p + 1 : Nat) : Int) - 1 = (p : Int) := by omega
   rw [hpI]
   unfold byte at hcell
   have HRw := hid hrow
   have HBl := hid hbel
   have HSet := hid hset
   have HCS := hid hcs
   have HX2 := hid hx2
   have HML := hid hml
   have hpk : p < k := by omega
   clear hrow hbel hset hcs hx2 hml hx hat hds hpI hpp hkp
   go_wp2
   refine ⟨⟨p, by omega, rfl, congrArg (Value.int .u64) (by rw [HCS.out]; omega), ?_, HBl.out.setCell hg2 _⟩, by simp [intOf]⟩
   rw [<- HSet.out]
   exact Row.set HRw.out HML.out p yb (by rw [HX2.out]; omega)
def Gives (w : World) (v0 : Value) (e : Enc) (x : Ending) (w' : World) : Prop := ∃ v, x = .returned (.agg #[v, .int .u64 e.size]) /\ Row w' v (be (e.turns + 4) e.low) /\ Below w.heap.size w w' /\ Moved w v0 v
theorem moved_of {w : World} {g0 n0 cap0 g n cap : Nat} (h : g = g0 \/ w.heap.size <= g) : Moved w (.slice (some ⟨g0, 0, none⟩) n0 cap0) (.slice (some ⟨g, 0, none⟩) n cap) := by
 rcases h with h | h
 · exact .inl (by rw [h]; rfl)
 · exact .inr fun k hk => by simp [Value.ownBlock] at hk; omega
theorem of_moved {w : World} {g0 n0 cap0 g n cap : Nat} (h : Moved w (.slice (some ⟨g0, 0, none⟩) n0 cap0) (.slice (some ⟨g, 0, none⟩) n cap)) : g = g0 \/ w.heap.size <= g := by
 rcases h with h | h
 · exact .inl (by simpa [Value.ownBlock] using h)
 · exact .inr (h g rfl)
def Widening (w : World) (g0 : Nat) (e : Enc) (r : Nat) (wr : World) : Prop := ∃ (e' : Enc) (g cap : Nat), r <= 3 /\ turnN r e' = widen e /\ Raw e' /\ 16777216 <= e'.size * 256 ^ r /\ e'.turns <= e.turns + 3 - r /\
 wr.heap[w.heap.size]? = some (.cells #[.slice (some ⟨g, 0, none⟩) (e'.turns + 4) cap, .int .u64 e'.size] 46 (0, 0)) /\
 wr.heap[w.heap.size + 1]? = some (.cells #[.slice none 0 0, .int .u64 0] 46 (0, 0)) /\
 Row wr (.slice (some ⟨g, 0, none⟩) (e'.turns + 4) cap) (be (e'.turns + 4) e'.low) /\ g ≠ w.heap.size /\ g ≠ w.heap.size + 1 /\ Below w.heap.size w wr /\ (g = g0 \/ w.heap.size <= g)
theorem widening_step {w w1 w2 w3 : World} {g0 : Nat} {e : Enc} {r lo s t g1 cap1 g2 cap2 g3 cap3 : Nat} {o : Obj} (htn : turnN r ⟨lo * 256, s * 256, t + 1⟩ = widen e) (hr : Raw ⟨lo, s, t⟩) (hlo : s < 16777216) (hs : 16777216 <= s * 256 ^ (r + 1)) (ht : t <= e.turns + 3 - (r + 1)) (h3 : r + 1 <= 3)
  (hc0 : w1.heap[w.heap.size]? = some (.cells (#[.slice (some ⟨g1, 0, none⟩) (t + 4) cap1, .int .u64 s].setIfInBounds 1 (.int .u64 ((s : Int) * 256))) 46 (0, 0)))
  (hc1 : w1.heap[w.heap.size + 1]? = some (.cells #[.slice none 0 0, .int .u64 0] 46 (0, 0)))
  (hb : Below w.heap.size w w1) (hb2 : Below w1.heap.size w1 w2) (hg2 : w1.heap.size <= g2)
  (ho : w3.ownsRow 0 5 1 (.slice (some ⟨g3, 0, none⟩) (t + 4 + 1) cap3) (t + 4 + 1) ((be (t + 4) lo).map byte ++ [.int .u8 0]))
  (hg : (w2.alloc o).grownBy w3 (Value.slice (some ⟨g2, 0, none⟩) (t + 4) cap2).ownBlock) (hm : Moved (w2.alloc o) (.slice (some ⟨g2, 0, none⟩) (t + 4) cap2) (.slice (some ⟨g3, 0, none⟩) (t + 4 + 1) cap3)) :
  Widening w g0 e r (w3.setCell ⟨w.heap.size, 0, none⟩ (.slice (some ⟨g3, 0, none⟩) (t + 4 + 1) cap3)) := by
 have l1 := lt_of_heap hc1
 have l2 := hb2.size
 have l3 := hg.size
 rw [World.size_alloc] at l3
 have keep : ∀ k, k < w1.heap.size -> w3.heap[k]? = w1.heap[k]? := fun k hk => by
  rw [hg.block k (by rw [World.size_alloc]; omega) (by simp [Value.ownBlock]; omega), Below.heap_alloc w2 o k (by omega), hb2.block k hk]
 have hg3 : w1.heap.size <= g3 := by
  rcases hm with e1 | e1
  · simp [Value.ownBlock] at e1; omega
  · have := e1 g3 rfl
    rw [World.size_alloc] at this; omega
 have k0 := (keep w.heap.size (by omega)).trans hc0
 have k1 := (keep (w.heap.size + 1) l1).trans hc1
 have hraw := turn_raw hr
 rw [turn_lo _ _ _ hlo] at hraw
 refine ⟨⟨lo * 256, s * 256, t + 1⟩, g3, cap3, by omega, htn, hraw, ?_, ?_, ?_, ?_, ?_, by omega, by omega, ?_, .inr (Nat.le_trans hb.size hg3)⟩
 · show 16777216 <= s * 256 * 256 ^ r
   rw [Nat.mul_assoc, Nat.mul_comm 256, <- Nat.pow_succ]; exact hs
 · show t + 1 <= e.turns + 3 - r; omega
 · rw [heap_setCell_same w3 w.heap.size 0 _ _ _ k0]
   simp
 · rw [Below.heap_setCell _ _ _ _ (by simp)]; exact k1
 · show Row _ (.slice (some ⟨g3, 0, none⟩) (t + 1 + 4) cap3) (be (t + 1 + 4) (lo * 256))
   rw [show t + 1 + 4 = t + 4 + 1 from by omega, Nat.mul_comm lo 256, be_shift]
   refine Row.frame (own := fun j => j = w.heap.size) ?_ ((Frame.refl (fun j => j = w.heap.size) w3).setCell (p := ⟨w.heap.size, 0, none⟩) (.inl rfl) _) (fun j hj e2 => by simp [Value.ownBlock] at hj; omega)
   unfold Row
   rw [List.length_append, be_length, List.map_append]
   exact ho
 · refine Below.setCell (p := ⟨w.heap.size, 0, none⟩) ?_ (Nat.le_refl _) _
   exact hb.trans ⟨(hg.os.trans hb2.os), (hg.tape.trans hb2.tape), (hg.output.trans hb2.output), by omega, fun k hk => keep k (by omega)⟩
theorem widen_any {w : World} {v : Value} {e : Enc} (h : Row w v (be (e.turns + 4) e.low)) (hr : Raw e) (ht : e.turns <= 1000000) :
  Calls Tryz.prog 82 #[.agg #[v, .int .u64 e.size]] w (Gives w v (widen e)) := by
 obtain ⟨g, cap, hv⟩ := h.form (by rw [be_length]; omega)
 rw [be_length] at hv
 subst hv
 have hlt := h.lt
 obtain ⟨i0, hi, hz0, hz1, hz2⟩ := info_parts info8
 have H0 : Widening w g e 3 ((w.alloc (.cells #[.slice (some ⟨g, 0, none⟩) (e.turns + 4) cap, .int .u64 e.size] 46)).alloc (.cells #[.slice none 0 0, .int .u64 0] 46)) := by
  refine ⟨e, g, cap, Nat.le_refl _, rfl, hr, by have := hr.1; omega, by omega, ?_, ?_, ?_, by omega, by omega, ?_, .inl rfl⟩
  · rw [Below.heap_alloc _ _ _ (by simp)]; exact heap_alloc_new _ _
  · have := heap_alloc_new (w.alloc (.cells #[.slice (some ⟨g, 0, none⟩) (e.turns + 4) cap, .int .u64 e.size] 46)) (.cells #[.slice none 0 0, .int .u64 0] 46)
    rw [World.size_alloc] at this
    exact this
  · exact (World.ownsRow.alloc (World.ownsRow.alloc h _) _)
  · exact ((Below.refl _ _).alloc (Nat.le_refl _) _).alloc (by simp) _
 have HH := hid H0
 clear H0 h hr
 go_enter Tryz.func82, Tryz.ntmps82
 go_wp2
 go_loopg [3] 3 (fun r _ wr => Widening w g e r wr)
 case atStart => exact HH.out
 case round =>
  clear HH
  obtain ⟨⟨lo, s, t⟩, g1, cap1, hr3, ht1, hr1, hs1, htu, hc0, hc1, hrow, hg1, hg2, hbel, hor⟩ := hrel
  have HOR := hid hor
  clear hor
  have hz : s < 4294967296 := hr1.2.1
  have hz' : 1 <= s := hr1.1
  simp only at htu hs1 hc0 hrow
  have hp0 : wr.cell? ⟨w.heap.size, 0, none⟩ = some (.slice (some ⟨g1, 0, none⟩) (t + 4) cap1) := by simp [World.cell?, hc0]
  have hp1 : wr.cell? ⟨w.heap.size, 1, none⟩ = some (.int .u64 s) := by simp [World.cell?, hc0]
  have hf0 : wr.frozen? ⟨w.heap.size, 0, none⟩ = false := by simp [World.frozen?, hc0]
  have hf1 : wr.frozen? ⟨w.heap.size, 1, none⟩ = false := by simp [World.frozen?, hc0]
  have hq0 : wr.cell? ⟨w.heap.size + 1, 0, none⟩ = some (.slice none 0 0) := by simp [World.cell?, hc1]
  have hq1 : wr.cell? ⟨w.heap.size + 1, 1, none⟩ = some (.int .u64 0) := by simp [World.cell?, hc1]
  have hg0 : wr.frozen? ⟨w.heap.size + 1, 0, none⟩ = false := by simp [World.frozen?, hc1]
  have hg1' : wr.frozen? ⟨w.heap.size + 1, 1, none⟩ = false := by simp [World.frozen?, hc1]
  have HS1 := hid hs1
  have HR1 := hid hr1
  have HTU := hid htu
  have HR3 := hid hr3
  clear hs1 hr1 htu hr3
  by_cases hlo : s < 16777216
  · have hd : decide ((s : Int) < 16777216) = true := by rw [decide_eq_true_iff]; omega
    have hgk : gk ≠ 0 := by
     rintro rfl
     have := HS1.out
     simp at this; omega
    obtain ⟨r, rfl⟩ : ∃ r, gk = r + 1 := ⟨gk - 1, by omega⟩
    have hfr : Frame (fun j => j = w.heap.size) wr (wr.setCell ⟨w.heap.size, 1, none⟩ (.int .u64 ((s : Int) * 256))) := (Frame.refl (fun j => j = w.heap.size) wr).setCell (p := ⟨w.heap.size, 1, none⟩) (.inl rfl) _
    have hblt := lt_of_heap hc1
    have hc0' := heap_setCell_same wr w.heap.size 1 _ _ (.int .u64 ((s : Int) * 256)) hc0
    have hc1' := (hfr.block _ hblt (by omega)).trans hc1
    have hrow' := hrow.frame hfr (fun j hj e => by simp [Value.ownBlock] at hj; omega)
    have hbel' := hbel.setCell (p := ⟨w.heap.size, 1, none⟩) (Nat.le_refl _) (.int .u64 ((s : Int) * 256))
    have hz2' : s * 256 < 4294967296 := by omega
    have htn : turnN r ⟨lo * 256, s * 256, t + 1⟩ = widen e := by
     rw [<- ht1, turnN, turn_lo _ _ _ hlo]
    have HC0 := hid hc0'
    have HC1 := hid hc1'
    have HRow := hid hrow'
    have HBel := hid hbel'
    have HTN := hid htn
    have HLO := hid hlo
    have htl : t + 5 <= 2000000 := by have := HTU.out; omega
    clear ht1 hrow hbel hc0 hc1 hlo hfr hc0' hc1' hrow' hbel' htn hblt hgk hz2'
    go_upto_region 3 with (fail)
    clear hp0 hp1 hf0 hf1 hq0 hq1 hg0 hg1' hd
    generalize wr.setCell ⟨w.heap.size, 1, none⟩ (.int .u64 ((s : Int) * 256)) = w1 at *
    have hc0 := HC0.out
    have hp0 : w1.cell? ⟨w.heap.size, 0, none⟩ = some (.slice (some ⟨g1, 0, none⟩) (t + 4) cap1) := by simp [World.cell?, hc0]
    have hlen := be_length (t + 4) lo
    have hrow := HRow.out
    have HN := hid (Row.news (cap := cap1) (by rw [hlen]; exact Row.below hrow ((Below.refl _ _).alloc (Nat.le_refl _) (.cells #[] 5)) (fun j hj => ownsRow_lt hrow j hj)))
    have HL : Hid (((be (t + 4) lo).map byte).length = (t + 4) * 1) := hid (by simp [be_length])
    have hb1 : 0 + (t + 4) <= maxLen := by unfold maxLen; omega
    have hb2 : (0 + (t + 4)) * 1 <= 140737488355328 := by omega
    have hb3 : t + 4 + 1 <= maxLen := by unfold maxLen; omega
    have hb4 : (t + 4 + 1) * 1 <= 140737488355328 := by omega
    have h4 : 0 < t + 4 := by omega
    have hsz1 := lt_of_heap HC1.out
    have hsz0 : w.heap.size < w1.heap.size := by omega
    clear hc0 hlen hrow
    go_wp2_with (first | (at_builtin; refine wpList_append_more _ rfl (.tmp 10) (.tmp 12) 43 rfl 5 i0 (.int .u8 0) 1 1 Tryz.underlying43 hi hz0 hz1 hz2 rfl (by decide) (.slice (some ⟨w1.heap.size, 0, none⟩) 0 0) 0 [] rfl (row_empty w1) ⟨g1, 0, none⟩ (t + 4) cap1 h4 ((be (t + 4) lo).map byte) rfl HL.out HN.out (ones _) hb1 hb2 ?_; intro g2 cap2 w2 hown2 hgr2 hmv2; obtain ⟨hr2, hbl2, hg3⟩ := fresh_of HL.out hown2 hgr2 hmv2; have HR2 := hid hr2; have HB2 := hid hbl2; have hsz2 : w.heap.size < w2.heap.size := Nat.lt_of_lt_of_le hsz0 hbl2.size; have hc2 := (hbl2.cell (p := ⟨w.heap.size, 0, none⟩) (by simp; omega)).trans hp0; have HO2 := hid (own_row HL.out hr2); clear hown2 hgr2 hmv2 hr2 hbl2; rw [Nat.zero_add]) | (at_builtin; refine wpList_append_one _ rfl (.tmp 13) (.tmp 14) 43 rfl 5 i0 (.int .u8 0) 1 1 Tryz.underlying43 hi hz0 hz1 hz2 rfl (by decide) (.slice (some ⟨g2, 0, none⟩) (t + 4) cap2) (t + 4) ((be (t + 4) lo).map byte) rfl (HO2.out.alloc _) ⟨w2.heap.size, 0, none⟩ 1 [.int .u8 0] rfl rfl (cell_one_new _ _ _) (ones [0]) hb3 hb4 ?_; intro g3 cap3 w3 hown3 hgr3 hmv3; obtain ⟨hc3, hf3, hs3⟩ := old_cell HC0.out hsz1 HB2.out hg3 hgr3; have HO3 := hid hown3; have HG3 := hid hgr3; have HM3 := hid hmv3; clear hown3 hgr3 hmv3))
    go_roundg r
    case measure => omega
    case rel => exact widening_step HTN.out HR1.out HLO.out HS1.out HTU.out HR3.out HC0.out HC1.out HBel.out HB2.out hg3 HO3.out HG3.out HM3.out
  · have hd : decide ((s : Int) < 16777216) = false := by rw [decide_eq_false_iff_not]; omega
    have hk := turnN_keep gk (e := ⟨lo, s, t⟩) (by simp only; omega)
    rw [hk] at ht1
    have HT := hid ht1
    have HRow := hid hrow
    have HBel := hid hbel
    have HLO := hid hlo
    clear ht1 hrow hbel hk hc0 hc1 hlo hz hz'
    go_wp2
    refine bodyPost_ret (v := .agg #[.slice (some ⟨g1, 0, none⟩) (t + 4) cap1, .int .u64 s]) ?_ rfl ?_
    · simp [results, Tryz.results82, go_sem, hq0, hq1]
    · refine ⟨_, by rw [<- HT.out], ?_, ?_, moved_of HOR.out⟩
      · rw [<- HT.out]
        exact Row.frame HRow.out (((Frame.refl (fun j => j = w.heap.size + 1) wr).setCell (p := ⟨w.heap.size + 1, 0, none⟩) (.inl rfl) _).setCell (p := ⟨w.heap.size + 1, 1, none⟩) (.inl rfl) _) (fun j hj e => by simp [Value.ownBlock] at hj; omega)
      · exact (HBel.out.setCell (by simp) _).setCell (by simp) _
theorem ret_int {k : IntKind} {a b : Int} (h : a = b) : Ending.returned (.int k a) = .returned (.int k b) := by rw [h]
theorem learn_any (p b : Nat) (h1 : 31 <= p) (h2 : p <= 2017) (hb : b <= 1) (w : World) :
  Calls Tryz.prog 83 #[.int .u64 p, .int .i64 b] w fun e w' => e = .returned (.int .u64 ((learn p b : Nat) : Int)) /\ w = w' := by
 have hl0 : learn p 0 = p + (2048 - p) / 32 := rfl
 have hl1 : learn p 1 = p - p / 32 := rfl
 have HL0 := hid hl0
 have HL1 := hid hl1
 clear hl0 hl1
 by_cases h0 : b = 0
 · subst h0
   go_enter Tryz.func83, Tryz.ntmps83
   go_wp2
   go_ret
   exact ⟨ret_int (by rw [HL0.out]; omega), rfl⟩
 · obtain rfl : b = 1 := by omega
   go_enter Tryz.func83, Tryz.ntmps83
   go_wp2
   go_ret
   exact ⟨ret_int (by rw [HL1.out]; omega), rfl⟩
theorem new_any (v0 : Value) (w : World) : Calls Tryz.prog 14 #[] w (Gives w v0 Enc.start) := by
 have hmk : ∀ w, (Instr.makeSlice 43 (.int .i64 4) (.int .i64 4)).run Tryz.prog w = .ok (.slice (some ⟨w.heap.size, 0, none⟩) 4 4) (w.alloc (.cells #[.int .u8 0, .int .u8 0, .int .u8 0, .int .u8 0] 5)) := fun _ => by kernel_rfl
 go_enter Tryz.func14, Tryz.ntmps14
 go_wp2
 refine bodyPost_ret (v := .agg #[.slice (some ⟨w.heap.size + 1, 0, none⟩) 4 4, .int .u64 4294967295]) ?_ rfl ?_
 · simp [results, Tryz.results14, go_sem]
 · refine ⟨_, rfl, ?_, ((Below.refl _ _).alloc (Nat.le_refl _) _).alloc (by simp) _, .inr fun k hk => by simp [Value.ownBlock] at hk; omega⟩
   show Row _ _ (be 4 0)
   rw [be_zero]
   refine ⟨rfl, .inr ⟨w.heap.size + 1, 4, #[.int .u8 0, .int .u8 0, .int .u8 0, .int .u8 0], rfl, Nat.zero_le _, ?_, Nat.le_refl _, by unfold maxLen; omega, rfl, rfl⟩⟩
   have := heap_alloc_new (w.alloc (.cells #[.slice (some ⟨w.heap.size + 1, 0, none⟩) 4 4, .int .u64 4294967295] 46)) (.cells #[.int .u8 0, .int .u8 0, .int .u8 0, .int .u8 0] 5)
   rw [World.size_alloc] at this
   exact this
theorem end_any {w : World} {v : Value} {e : Enc} (h : Row w v (be (e.turns + 4) e.low)) (ht : e.turns <= 1000000) (z : Nat) :
  Calls Tryz.prog 18 #[.agg #[v, .int .u64 z]] w fun x w' => x = .returned (.string ⟨e.bytes.toArray⟩) /\ Below w.heap.size w w' := by
 have hlen := be_length (e.turns + 4) e.low
 obtain ⟨g, cap, rfl⟩ := h.form (by rw [hlen]; omega)
 have hcv : (convert 43 9 (.slice (some ⟨g, 0, none⟩) (be (e.turns + 4) e.low).length cap)).run Tryz.prog (w.alloc (.cells #[.slice (some ⟨g, 0, none⟩) (be (e.turns + 4) e.low).length cap, .int .u64 z] 46)) = .ok (.string ⟨(be (e.turns + 4) e.low).toArray⟩) (w.alloc (.cells #[.slice (some ⟨g, 0, none⟩) (be (e.turns + 4) e.low).length cap, .int .u64 z] 46)) :=
  run_convert_bytes_back _ 43 9 5 ⟨g, 0, none⟩ cap _ Tryz.underlying43 Tryz.underlying5 Tryz.underlying9 (fun j hj => by
   have hc : (w.alloc (.cells #[.slice (some ⟨g, 0, none⟩) (be (e.turns + 4) e.low).length cap, .int .u64 z] 46)).cell? ⟨g, j, none⟩ = some (byte (be (e.turns + 4) e.low)[j]) := by
    rw [((Below.refl w.heap.size w).alloc (Nat.le_refl _) _).cell (p := ⟨g, j, none⟩) h.lt]
    exact h.cell j hj
   have hplain : (⟨g, 0, none⟩ : Addr).add j = ⟨g, j, none⟩ := by unfold Addr.add; split <;> simp_all
   rw [hplain]; exact hc)
 rw [hlen] at hcv ⊢
 have HB : Hid ((⟨#[0]⟩ : ByteArray) ++ ⟨(be (e.turns + 4) e.low).toArray⟩ = ⟨e.bytes.toArray⟩) := hid (by
  apply ByteArray.ext
  apply Array.toList_inj.1
  simp [Enc.bytes])
 generalize be (e.turns + 4) e.low = l at *
 clear h
 have hK : e.turns + 4 <= 1000004 := by omega
 generalize e.turns + 4 = K at *
 obtain ⟨U, hU⟩ : ∃ U : ByteArray, U = ⟨l.toArray⟩ := ⟨_, rfl⟩
 rw [<- hU] at hcv HB
 have hUs : U.size <= 1000004 := by rw [hU]; show l.toArray.size <= _; simp; omega
 clear hU hlen ht
 generalize e.bytes = y at *
 go_enter Tryz.func18, Tryz.ntmps18
 go_wp2
 go_ret
 exact ⟨by rw [<- HB.out]; rfl, (Below.refl _ _).alloc (Nat.le_refl _) _⟩
end Go.Proofs.YtfpoabeihpfeiaaGreat.Rc
end
section
namespace Go.Proofs.YtfpoabeihpfeiaaGreat.Rc
open Go.RowKit
theorem two {w : World} {X : Nat} {a b : Value} {t : TypeId} (h : w.heap[X]? = some (.cells #[a, b] t (0, 0))) :
  w.cell? ⟨X, 0, none⟩ = some a /\ w.cell? ⟨X, 1, none⟩ = some b /\ w.frozen? ⟨X, 0, none⟩ = false /\ w.frozen? ⟨X, 1, none⟩ = false /\ X < w.heap.size :=
 ⟨by simp [World.cell?, h], by simp [World.cell?, h], by simp [World.frozen?, h], by simp [World.frozen?, h], lt_of_heap h⟩
def Gives2 (w : World) (v0 : Value) (e : Enc) (p : Nat) (x : Ending) (w' : World) : Prop := ∃ v, x = .returned (.tuple #[.agg #[v, .int .u64 e.size], .int .u64 p]) /\ Row w' v (be (e.turns + 4) e.low) /\ Below w.heap.size w w' /\ Moved w v0 v
theorem moved_up {w w1 : World} {g0 n0 cap0 g n cap : Nat} (hs : w.heap.size <= w1.heap.size) (h : Moved w1 (.slice (some ⟨g0, 0, none⟩) n0 cap0) (.slice (some ⟨g, 0, none⟩) n cap)) : Moved w (.slice (some ⟨g0, 0, none⟩) n0 cap0) (.slice (some ⟨g, 0, none⟩) n cap) := by
 rcases of_moved h with h | h
 · exact moved_of (.inl h)
 · exact moved_of (.inr (by omega))
theorem moved_new {w w1 : World} {v0 : Value} {g1 n1 cap1 g n cap : Nat} (hs : w.heap.size <= w1.heap.size) (hg : w.heap.size <= g1) (h : Moved w1 (.slice (some ⟨g1, 0, none⟩) n1 cap1) (.slice (some ⟨g, 0, none⟩) n cap)) : Moved w v0 (.slice (some ⟨g, 0, none⟩) n cap) := by
 rcases of_moved h with h | h
 · exact .inr fun k hk => by simp [Value.ownBlock] at hk; omega
 · exact .inr fun k hk => by simp [Value.ownBlock] at hk; omega
theorem row_ne {w : World} {g n cap X : Nat} {l : List UInt8} {cs : Array Value} {t : TypeId} (h : Row w (.slice (some ⟨g, 0, none⟩) n cap) l) (hc : w.heap[X]? = some (.cells cs t (0, 0))) (ht : t ≠ 5) : g ≠ X := by
 rcases h.2 with ⟨e, _⟩ | ⟨g', cap', cur, e, _, hg, _⟩
 · simp at e
 · simp only [Value.slice.injEq, Option.some.injEq, Addr.mk.injEq, and_true] at e
   rintro rfl
   rw [e.1, hg] at hc
   simp only [Option.some.injEq, Obj.cells.injEq] at hc
   exact ht hc.2.1.symm
theorem laid {w w3 : World} {g n cap : Nat} {l : List UInt8} {cs : Array Value} {t : TypeId} (h : Row w3 (.slice (some ⟨g, 0, none⟩) n cap) l) (hc : w3.heap[w.heap.size + 1]? = some (.cells cs t (0, 0))) (ht : t ≠ 5) (hb : Below w.heap.size w w3) (a b : Value) :
  Row ((w3.setCell ⟨w.heap.size + 1, 0, none⟩ a).setCell ⟨w.heap.size + 1, 1, none⟩ b) (.slice (some ⟨g, 0, none⟩) n cap) l /\ Below w.heap.size w ((w3.setCell ⟨w.heap.size + 1, 0, none⟩ a).setCell ⟨w.heap.size + 1, 1, none⟩ b) := by
 have hne := row_ne h hc ht
 refine ⟨h.frame (own := fun j => j = w.heap.size + 1) (((Frame.refl (fun j => j = w.heap.size + 1) w3).setCell (p := ⟨w.heap.size + 1, 0, none⟩) (.inl rfl) _).setCell (p := ⟨w.heap.size + 1, 1, none⟩) (.inl rfl) _) (fun j hj e => by simp [Value.ownBlock] at hj; omega), ?_⟩
 exact (hb.setCell (p := ⟨w.heap.size + 1, 0, none⟩) (by simp) _).setCell (p := ⟨w.heap.size + 1, 1, none⟩) (by simp) _
theorem kept {w w1 : World} {g n cap : Nat} {l : List UInt8} {cs ds : Array Value} {t : TypeId} (h : Row w1 (.slice (some ⟨g, 0, none⟩) n cap) l) (hc : w1.heap[w.heap.size]? = some (.cells cs t (0, 0))) (hd : w1.heap[w.heap.size + 1]? = some (.cells ds t (0, 0))) (ht : t ≠ 5) (hb : Below w.heap.size w w1) (a b : Value) :
  Row ((w1.setCell ⟨w.heap.size, 0, none⟩ a).setCell ⟨w.heap.size, 1, none⟩ b) (.slice (some ⟨g, 0, none⟩) n cap) l /\ ((w1.setCell ⟨w.heap.size, 0, none⟩ a).setCell ⟨w.heap.size, 1, none⟩ b).heap[w.heap.size + 1]? = some (.cells ds t (0, 0)) /\ Below w.heap.size w ((w1.setCell ⟨w.heap.size, 0, none⟩ a).setCell ⟨w.heap.size, 1, none⟩ b) := by
 have hne := row_ne h hc ht
 have hF : Frame (fun j => j = w.heap.size) w1 ((w1.setCell ⟨w.heap.size, 0, none⟩ a).setCell ⟨w.heap.size, 1, none⟩ b) := ((Frame.refl (fun j => j = w.heap.size) w1).setCell (p := ⟨w.heap.size, 0, none⟩) (.inl rfl) _).setCell (p := ⟨w.heap.size, 1, none⟩) (.inl rfl) _
 refine ⟨h.frame hF (fun j hj e => by simp [Value.ownBlock] at hj; omega), (hF.block _ (lt_of_heap hd) (by omega)).trans hd, ?_⟩
 exact (hb.setCell (p := ⟨w.heap.size, 0, none⟩) (Nat.le_refl _) _).setCell (p := ⟨w.heap.size, 1, none⟩) (Nat.le_refl _) _
theorem kept1 {w w1 : World} {g n cap : Nat} {l : List UInt8} {cs ds : Array Value} {t : TypeId} (h : Row w1 (.slice (some ⟨g, 0, none⟩) n cap) l) (hc : w1.heap[w.heap.size]? = some (.cells cs t (0, 0))) (hd : w1.heap[w.heap.size + 1]? = some (.cells ds t (0, 0))) (ht : t ≠ 5) (hb : Below w.heap.size w w1) (a : Value) :
  Row (w1.setCell ⟨w.heap.size, 0, none⟩ a) (.slice (some ⟨g, 0, none⟩) n cap) l /\ (w1.setCell ⟨w.heap.size, 0, none⟩ a).heap[w.heap.size + 1]? = some (.cells ds t (0, 0)) /\ Below w.heap.size w (w1.setCell ⟨w.heap.size, 0, none⟩ a) := by
 have hne := row_ne h hc ht
 have hF : Frame (fun j => j = w.heap.size) w1 (w1.setCell ⟨w.heap.size, 0, none⟩ a) := (Frame.refl (fun j => j = w.heap.size) w1).setCell (p := ⟨w.heap.size, 0, none⟩) (.inl rfl) _
 exact ⟨h.frame hF (fun j hj e => by simp [Value.ownBlock] at hj; omega), (hF.block _ (lt_of_heap hd) (by omega)).trans hd, hb.setCell (p := ⟨w.heap.size, 0, none⟩) (Nat.le_refl _) _⟩
theorem behind {w w3 : World} {a b c d : Value} {t : TypeId} (h : Below ((w.alloc (.cells #[a, b] t)).alloc (.cells #[c, d] t)).heap.size ((w.alloc (.cells #[a, b] t)).alloc (.cells #[c, d] t)) w3) :
  w3.heap[w.heap.size]? = some (.cells #[a, b] t (0, 0)) /\ w3.heap[w.heap.size + 1]? = some (.cells #[c, d] t (0, 0)) /\ w.heap.size + 2 <= w3.heap.size /\ Below w.heap.size w w3 := by
 have hs : ((w.alloc (.cells #[a, b] t)).alloc (.cells #[c, d] t)).heap.size = w.heap.size + 2 := by simp
 have h0 := h.size
 rw [hs] at h h0
 refine ⟨?_, ?_, h0, ?_⟩
 · rw [h.block _ (by omega), Below.heap_alloc _ _ _ (by simp)]
   exact heap_alloc_new w _
 · rw [h.block _ (by omega)]
   have := heap_alloc_new (w.alloc (.cells #[a, b] t)) (.cells #[c, d] t)
   rw [World.size_alloc] at this
   exact this
 · exact (((Below.refl _ _).alloc (Nat.le_refl _) _).alloc (by simp) _).trans (h.mono (by omega))
theorem bit0_any {w : World} {v : Value} {e : Enc} (h : Row w v (be (e.turns + 4) e.low)) (hf : Fine e) (ht : e.turns <= 999990) (p : Nat) (h1 : 31 <= p) (h2 : p <= 2017) :
  Calls Tryz.prog 57 #[.agg #[v, .int .u64 e.size], .int .u64 p, .int .i64 0] w (Gives2 w v (e.bit p 0) (learn p 0)) := by
 obtain ⟨lo, s, t⟩ := e
 simp only at h ht
 obtain ⟨g, cap, hv⟩ := h.form (by rw [be_length]; omega)
 rw [be_length] at hv
 subst hv
 have hraw := bit_raw (b := 0) hf (show 1 <= p by omega) (show p <= 2047 by omega)
 rw [if_pos rfl] at hraw
 simp only at hraw
 have hbl := bound_lt hf.1 (show p <= 2047 by omega)
 simp only at hbl
 have hsz : s < 4294967296 := hf.2.1
 have hbe : (Enc.mk lo s t).bit p 0 = widen ⟨lo, s / 2048 * p, t⟩ := rfl
 have hB : s / 2048 * p < 4294967296 := by omega
 rw [hbe]
 have hmul : ((s : Int) / 2048 * (p : Int)) = ((s / 2048 * p : Nat) : Int) := by simp
 have HMUL := hid hmul
 have hnn : (0 : Int) <= (s : Int) / 2048 * (p : Int) := by rw [hmul]; omega
 have hnu : (s : Int) / 2048 * (p : Int) < 18446744073709551616 := by rw [hmul]; omega
 have HRW := hid h
 have HRAW := hid hraw
 clear h hf hraw hbl hbe hB hmul
 go_enter Tryz.func57, Tryz.ntmps57
 go_wp2_with fail
 rw [HMUL.out]
 refine (widen_any (e := ⟨lo, s / 2048 * p, t⟩) (World.ownsRow.alloc (World.ownsRow.alloc HRW.out _) _) HRAW.out (by simp only; omega)).mono ?_
 rintro x w3 ⟨v3, rfl, hrow3, hb3, hmv3⟩
 obtain ⟨k0, k1, k2, hbw⟩ := behind hb3
 obtain ⟨hq0, hq1, hf0, hf1, hlt⟩ := two k1
 have HR3 := hid hrow3
 have HMV := hid hmv3
 clear hmv3
 have HBW := hid hbw
 have HK1 := hid k1
 clear hrow3 hb3 hbw k0 k1 hnn hnu
 generalize widen ⟨lo, s / 2048 * p, t⟩ = e3 at *
 obtain ⟨g3, cap3, hv3⟩ := HR3.out.form (by rw [be_length]; omega)
 rw [be_length] at hv3
 subst hv3
 go_wp2_with fail
 refine (learn_any p 0 h1 h2 (by omega) _).mono ?_
 rintro x w4 ⟨rfl, rfl⟩
 go_wp2
 obtain ⟨c1, c2⟩ := laid HR3.out HK1.out (by decide) HBW.out (.slice (some ⟨g3, 0, none⟩) (e3.turns + 4) cap3) (.int .u64 e3.size)
 refine bodyPost_ret (v := .tuple #[.agg #[.slice (some ⟨g3, 0, none⟩) (e3.turns + 4) cap3, .int .u64 e3.size], .int .u64 ((learn p 0 : Nat) : Int)]) ?_ rfl ⟨_, rfl, c1, c2, moved_up (by simp; omega) HMV.out⟩
 simp [results, Tryz.results57, go_sem, hq0, hq1]
theorem bit1_any {w : World} {v : Value} {e : Enc} (h : Row w v (be (e.turns + 4) e.low)) (hf : Fine e) (ht : e.turns <= 999990) (p : Nat) (h1 : 31 <= p) (h2 : p <= 2017) :
  Calls Tryz.prog 57 #[.agg #[v, .int .u64 e.size], .int .u64 p, .int .i64 1] w (Gives2 w v (e.bit p 1) (learn p 1)) := by
 obtain ⟨lo, s, t⟩ := e
 simp only at h ht
 obtain ⟨g, cap, hv⟩ := h.form (by rw [be_length]; omega)
 rw [be_length] at hv
 subst hv
 have hraw := bit_raw (b := 1) hf (show 1 <= p by omega) (show p <= 2047 by omega)
 rw [if_neg (by omega)] at hraw
 simp only at hraw
 have hbl := bound_lt hf.1 (show p <= 2047 by omega)
 simp only at hbl
 have hsz : s < 4294967296 := hf.2.1
 have hbe : (Enc.mk lo s t).bit p 1 = widen ⟨lo + s / 2048 * p, s - s / 2048 * p, t⟩ := rfl
 have hB : s / 2048 * p < 4294967296 := by omega
 rw [hbe]
 have hmul : ((s : Int) / 2048 * (p : Int)) = ((s / 2048 * p : Nat) : Int) := by simp
 have HMUL := hid hmul
 have hnn : (0 : Int) <= (s : Int) / 2048 * (p : Int) := by rw [hmul]; omega
 have hnu : (s : Int) / 2048 * (p : Int) < 18446744073709551616 := by rw [hmul]; omega
 have hsub : ((s : Int) - ((s / 2048 * p : Nat) : Int)) = ((s - s / 2048 * p : Nat) : Int) := by omega
 have HSUB := hid hsub
 have HRW := hid h
 have HRAW := hid hraw
 have HBB := hid hB
 have HBL := hid hbl
 clear h hf hraw hbl hbe hB hmul hsub
 go_enter Tryz.func57, Tryz.ntmps57
 go_wp2_with fail
 rw [HMUL.out]
 refine (add_any (k := t + 4) (L := lo) (World.ownsRow.alloc (World.ownsRow.alloc HRW.out _) _) (by omega) (by omega) _ HBB.out).mono ?_
 rintro x w1 ⟨g1, cap1, rfl, hrow1, hb1, hg1⟩
 have HG1 : Hid (w.heap.size <= g1) := hid (by simp at hg1; omega)
 rw [be_length] at hrow1 ⊢
 obtain ⟨k0, k1, k2, hbw⟩ := behind hb1
 obtain ⟨hp0, hp1, hpf0, hpf1, hplt⟩ := two k0
 have HR1 := hid hrow1
 have HBW := hid hbw
 have HK0 := hid k0
 have HK1 := hid k1
 have hblI : ((s / 2048 * p : Nat) : Int) < (s : Int) := by have := HBL.out; omega
 clear hrow1 hb1 hbw k0 k1 hnn hnu
 generalize s / 2048 * p = B at *
 go_wp2_with fail
 rw [HSUB.out]
 obtain ⟨d1, d2, d3⟩ := kept HR1.out HK0.out HK1.out (by decide) HBW.out (.slice (some ⟨g1, 0, none⟩) (t + 4) cap1) (.int .u64 ((s - B : Nat) : Int))
 generalize (w1.setCell ⟨w.heap.size, 0, none⟩ (.slice (some ⟨g1, 0, none⟩) (t + 4) cap1)).setCell ⟨w.heap.size, 1, none⟩ (.int .u64 ((s - B : Nat) : Int)) = w2 at *
 refine (widen_any (e := ⟨lo + B, s - B, t⟩) d1 HRAW.out (by simp only; omega)).mono ?_
 rintro x w3 ⟨v3, rfl, hrow3, hb3, hmv3⟩
 have k1 := (hb3.block _ (lt_of_heap d2)).trans d2
 have hbw := d3.trans (hb3.mono d3.size)
 obtain ⟨hq0, hq1, hf0, hf1, hlt⟩ := two k1
 have HR3 := hid hrow3
 have HMV := hid hmv3
 have HSZ := hid d3.size
 clear hmv3
 have HBW3 := hid hbw
 have HK3 := hid k1
 clear hrow3 hb3 hbw k1 d1 d2 d3 hp0 hp1 hpf0 hpf1 hplt hg1 k2
 generalize widen ⟨lo + B, s - B, t⟩ = e3 at *
 obtain ⟨g3, cap3, hv3⟩ := HR3.out.form (by rw [be_length]; omega)
 rw [be_length] at hv3
 subst hv3
 go_wp2_with fail
 refine (learn_any p 1 h1 h2 (by omega) _).mono ?_
 rintro x w4 ⟨rfl, rfl⟩
 go_wp2
 obtain ⟨c1, c2⟩ := laid HR3.out HK3.out (by decide) HBW3.out (.slice (some ⟨g3, 0, none⟩) (e3.turns + 4) cap3) (.int .u64 e3.size)
 refine bodyPost_ret (v := .tuple #[.agg #[.slice (some ⟨g3, 0, none⟩) (e3.turns + 4) cap3, .int .u64 e3.size], .int .u64 ((learn p 1 : Nat) : Int)]) ?_ rfl ⟨_, rfl, c1, c2, moved_new HSZ.out HG1.out HMV.out⟩
 simp [results, Tryz.results57, go_sem, hq0, hq1]
theorem direct0_any {w : World} {v : Value} {e : Enc} (h : Row w v (be (e.turns + 4) e.low)) (hf : Fine e) (ht : e.turns <= 999990) (b : Nat) (hb : b = 0) :
  Calls Tryz.prog 62 #[.agg #[v, .int .u64 e.size], .int .i64 b] w (Gives w v (e.direct b)) := by
 subst hb
 obtain ⟨lo, s, t⟩ := e
 simp only at h ht
 obtain ⟨g, cap, hv⟩ := h.form (by rw [be_length]; omega)
 rw [be_length] at hv
 subst hv
 have hraw := direct_raw hf 0
 rw [if_neg (by omega)] at hraw
 simp only at hraw
 have hsz : s < 4294967296 := hf.2.1
 have hbe : (Enc.mk lo s t).direct 0 = widen ⟨lo, s / 2, t⟩ := rfl
 rw [hbe]
 have hdiv : ((s : Int) / 2) = ((s / 2 : Nat) : Int) := by simp
 have HDIV := hid hdiv
 have HRW := hid h
 have HRAW := hid hraw
 clear h hf hraw hbe hdiv
 go_enter Tryz.func62, Tryz.ntmps62
 go_wp2_with fail
 rw [HDIV.out]
 refine (widen_any (e := ⟨lo, s / 2, t⟩) (World.ownsRow.alloc (World.ownsRow.alloc HRW.out _) _) HRAW.out (by simp only; omega)).mono ?_
 rintro x w3 ⟨v3, rfl, hrow3, hb3, hmv3⟩
 obtain ⟨k0, k1, k2, hbw⟩ := behind hb3
 obtain ⟨hq0, hq1, hf0, hf1, hlt⟩ := two k1
 have HR3 := hid hrow3
 have HMV := hid hmv3
 clear hmv3
 have HBW := hid hbw
 have HK1 := hid k1
 clear hrow3 hb3 hbw k0 k1
 generalize widen ⟨lo, s / 2, t⟩ = e3 at *
 obtain ⟨g3, cap3, hv3⟩ := HR3.out.form (by rw [be_length]; omega)
 rw [be_length] at hv3
 subst hv3
 go_wp2
 obtain ⟨c1, c2⟩ := laid HR3.out HK1.out (by decide) HBW.out (.slice (some ⟨g3, 0, none⟩) (e3.turns + 4) cap3) (.int .u64 e3.size)
 refine bodyPost_ret (v := .agg #[.slice (some ⟨g3, 0, none⟩) (e3.turns + 4) cap3, .int .u64 e3.size]) ?_ rfl ⟨_, rfl, c1, c2, moved_up (by simp; omega) HMV.out⟩
 simp [results, Tryz.results62, go_sem, hq0, hq1]
theorem direct1_any {w : World} {v : Value} {e : Enc} (h : Row w v (be (e.turns + 4) e.low)) (hf : Fine e) (ht : e.turns <= 999990) (b : Nat) (hb : b = 1) :
  Calls Tryz.prog 62 #[.agg #[v, .int .u64 e.size], .int .i64 b] w (Gives w v (e.direct b)) := by
 subst hb
 obtain ⟨lo, s, t⟩ := e
 simp only at h ht
 obtain ⟨g, cap, hv⟩ := h.form (by rw [be_length]; omega)
 rw [be_length] at hv
 subst hv
 have hraw := direct_raw hf 1
 rw [if_pos rfl] at hraw
 simp only at hraw
 have hsz : s < 4294967296 := hf.2.1
 have hbe : (Enc.mk lo s t).direct 1 = widen ⟨lo + s / 2, s / 2, t⟩ := rfl
 rw [hbe]
 have hdiv : ((s : Int) / 2) = ((s / 2 : Nat) : Int) := by simp
 have HBB := hid (show s / 2 < 4294967296 by omega)
 have HDIV := hid hdiv
 have HRW := hid h
 have HRAW := hid hraw
 clear h hf hraw hbe hdiv
 go_enter Tryz.func62, Tryz.ntmps62
 go_wp2_with fail
 rw [HDIV.out]
 refine (add_any (k := t + 4) (L := lo) (World.ownsRow.alloc (World.ownsRow.alloc HRW.out _) _) (by omega) (by omega) _ HBB.out).mono ?_
 rintro x w1 ⟨g1, cap1, rfl, hrow1, hb1, hg1⟩
 have HG1 : Hid (w.heap.size <= g1) := hid (by simp at hg1; omega)
 rw [be_length] at hrow1 ⊢
 obtain ⟨k0, k1, k2, hbw⟩ := behind hb1
 obtain ⟨hp0, hp1, hpf0, hpf1, hplt⟩ := two k0
 have HR1 := hid hrow1
 have HBW := hid hbw
 have HK0 := hid k0
 have HK1 := hid k1
 clear hrow1 hb1 hbw k0 k1
 generalize s / 2 = B at *
 go_wp2_with fail
 obtain ⟨d1, d2, d3⟩ := kept1 HR1.out HK0.out HK1.out (by decide) HBW.out (.slice (some ⟨g1, 0, none⟩) (t + 4) cap1)
 generalize w1.setCell ⟨w.heap.size, 0, none⟩ (.slice (some ⟨g1, 0, none⟩) (t + 4) cap1) = w2 at *
 refine (widen_any (e := ⟨lo + B, B, t⟩) d1 HRAW.out (by simp only; omega)).mono ?_
 rintro x w3 ⟨v3, rfl, hrow3, hb3, hmv3⟩
 have k1 := (hb3.block _ (lt_of_heap d2)).trans d2
 have hbw := d3.trans (hb3.mono d3.size)
 obtain ⟨hq0, hq1, hf0, hf1, hlt⟩ := two k1
 have HR3 := hid hrow3
 have HMV := hid hmv3
 have HSZ := hid d3.size
 clear hmv3
 have HBW3 := hid hbw
 have HK3 := hid k1
 clear hrow3 hb3 hbw k1 d1 d2 d3 hp0 hp1 hpf0 hpf1 hplt hg1 k2
 generalize widen ⟨lo + B, B, t⟩ = e3 at *
 obtain ⟨g3, cap3, hv3⟩ := HR3.out.form (by rw [be_length]; omega)
 rw [be_length] at hv3
 subst hv3
 go_wp2
 obtain ⟨c1, c2⟩ := laid HR3.out HK3.out (by decide) HBW3.out (.slice (some ⟨g3, 0, none⟩) (e3.turns + 4) cap3) (.int .u64 e3.size)
 refine bodyPost_ret (v := .agg #[.slice (some ⟨g3, 0, none⟩) (e3.turns + 4) cap3, .int .u64 e3.size]) ?_ rfl ⟨_, rfl, c1, c2, moved_new HSZ.out HG1.out HMV.out⟩
 simp [results, Tryz.results62, go_sem, hq0, hq1]
theorem bitb_any {w : World} {v : Value} {e : Enc} (h : Row w v (be (e.turns + 4) e.low)) (hf : Fine e) (ht : e.turns <= 999990) (p b : Nat) (h1 : 31 <= p) (h2 : p <= 2017) (hb : b <= 1) :
  Calls Tryz.prog 57 #[.agg #[v, .int .u64 e.size], .int .u64 p, .int .i64 b] w (Gives2 w v (e.bit p b) (learn p b)) := by
 by_cases h0 : b = 0
 · subst h0; exact bit0_any h hf ht p h1 h2
 · obtain rfl : b = 1 := by omega
   exact bit1_any h hf ht p h1 h2
end Go.Proofs.YtfpoabeihpfeiaaGreat.Rc
end
section
namespace Go.Proofs.YtfpoabeihpfeiaaGreat.Rc
open Go.RowKit
theorem Row.toOwn {w : World} {v : Value} {l : List UInt8} (h : Row w v l) : w.ownsRow 0 5 1 v (l.map byte).length (l.map byte) := by
 rw [List.length_map]; exact h
def RefAt (w : World) (O : Paint) (c M g cap : Nat) (e : Enc) : Prop :=
 Blk w O c M (.cells #[.slice (some ⟨g, 0, none⟩) (e.turns + 4) cap, .int .u64 e.size] 46 (0, 0)) /\
 Held w O c 5 (.slice (some ⟨g, 0, none⟩) (e.turns + 4) cap) ((be (e.turns + 4) e.low).map byte)
def RefBlk (w : World) (O : Paint) (c M : Nat) (e : Enc) : Prop := ∃ g cap, RefAt w O c M g cap e
theorem RefBlk.step {cs : List Nat} {w w' : World} {O O' : Paint} {c M : Nat} {e : Enc} (h : RefBlk w O c M e) (hs : Step cs w O w' O') (hc : c ∉ cs) : RefBlk w' O' c M e := by
 obtain ⟨g, cap, h1, h2⟩ := h
 exact ⟨g, cap, h1.step hs hc, h2.step hs hc⟩
theorem RefAt.set {w w' : World} {O : Paint} {c M g cap g' n' cap' : Nat} {e e' : Enc} (h : RefAt w O c M g cap e) (hb : Below w.heap.size w w') (hr : Row w' (.slice (some ⟨g', 0, none⟩) n' cap') (be (e'.turns + 4) e'.low)) (hm : Moved w (.slice (some ⟨g, 0, none⟩) (e.turns + 4) cap) (.slice (some ⟨g', 0, none⟩) n' cap')) (hn : n' = e'.turns + 4) :
  RefBlk ((w'.setCell ⟨M, 0, none⟩ (.slice (some ⟨g', 0, none⟩) n' cap')).setCell ⟨M, 1, none⟩ (.int .u64 e'.size)) (Step.paint O w c) c M e' /\
  Step [c] w O ((w'.setCell ⟨M, 0, none⟩ (.slice (some ⟨g', 0, none⟩) n' cap')).setCell ⟨M, 1, none⟩ (.int .u64 e'.size)) (Step.paint O w c) := by
 subst hn
 obtain ⟨h1, h2⟩ := h
 have s0 : Step [c] w O w' (Step.paint O w c) := (Step.of_below hb O c).nil
 have hne : g ≠ M := h2.ne h1.1 (by decide)
 have b2 := h1.step (Step.of_below hb O c) (by simp)
 have r2 : Held w' (Step.paint O w c) c 5 (.slice (some ⟨g', 0, none⟩) (e'.turns + 4) cap') ((be (e'.turns + 4) e'.low).map byte) := h2.moved hr.toOwn hm
 have hn2 : (Value.slice (some ⟨g', 0, none⟩) (e'.turns + 4) cap').ownBlock ≠ some M := by simp [Value.ownBlock]; exact r2.ne b2.1 (by decide)
 refine ⟨⟨g', cap', ?_, ?_⟩, ?_⟩
 · simpa using (b2.setCell 0 (.slice (some ⟨g', 0, none⟩) (e'.turns + 4) cap')).setCell 1 (.int .u64 e'.size)
 · exact (r2.setCell_other (p := ⟨M, 0, none⟩) hn2 _).setCell_other (p := ⟨M, 1, none⟩) hn2 _
 · have hc : O M ∈ [c] := by simp [h1.2]
   exact (s0.setCell (p := ⟨M, 0, none⟩) (.inl hc) _).setCell (p := ⟨M, 1, none⟩) (.inl hc) _
def u16s (l : List Nat) : List Value := l.map fun (n : Nat) => Value.int .u16 n
def u64s (l : List Nat) : List Value := l.map fun (n : Nat) => Value.int .u64 n
namespace Lock
variable {w0 w w' : World} {a M P Q : Nat} {e er : Enc} {pl ql : List Nat} {O O' : Paint}
end Lock
theorem and1_i64 (v i : Nat) (hv : v < 9223372036854775808) : bits .and .i64 ((v : Int) / 2 ^ i) 1 = ((bitAt v i : Nat) : Int) := by
 have hle : v / 2 ^ i < 9223372036854775808 := Nat.lt_of_le_of_lt (Nat.div_le_self _ _) hv
 have h2 : ((v : Int) / 2 ^ i) = ((v / 2 ^ i : Nat) : Int) := by simp
 have two63 : (2 : Int) ^ 63 = 9223372036854775808 := by decide
 rw [h2]
 unfold bitAt
 generalize v / 2 ^ i = q at *
 have h := bits_mask .i64 63 (by decide) (fun n h0 h1 => by rw [two63] at h1; rw [IntKind.wrap_i64]; omega) 1 (by decide) (q : Int) (by omega) (by rw [two63]; omega)
 have e : ((2 : Int) ^ 1 - 1) = 1 := by decide
 rw [e] at h
 rw [h]
 omega
theorem shr_wrap (v i : Nat) (hv : v < 9223372036854775808) : IntKind.i64.wrap ((v : Int) / 2 ^ i) = (v : Int) / 2 ^ i := by
 have hle : v / 2 ^ i < 9223372036854775808 := Nat.lt_of_le_of_lt (Nat.div_le_self _ _) hv
 have h2 : ((v : Int) / 2 ^ i) = ((v / 2 ^ i : Nat) : Int) := by simp
 rw [h2]
 generalize v / 2 ^ i = q at *
 exact IntWalk.i64_in _ (by omega)
end Go.Proofs.YtfpoabeihpfeiaaGreat.Rc
end
