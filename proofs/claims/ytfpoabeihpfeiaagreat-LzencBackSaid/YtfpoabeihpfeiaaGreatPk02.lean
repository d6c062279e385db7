/-
  Contracts of the developers' encoder of layer 3: what an encoder is in memory ('EncAt'), and what each of its calls does.
  Contracts of the developers' encoder of layer 3, more: its turns.
  Contracts of the developers' encoder of layer 3, more: Bit, Direct, Part, End, NewEncoder; and of none.
  Contracts of the developers' encoder of layer 3, more: Direct, Part, End, NewEncoder; and of none.
-/
import Derived.Test.YtfpoabeihpfeiaaGreatPk01
import Derived.Deep.RegionLaw
import Derived.Deep.AppendLies
import Derived.Laws.BitsAllLaws
import Derived.BigRegion
set_option maxRecDepth 100000
set_option maxHeartbeats 16000000
set_option linter.unusedVariables false
set_option linter.unusedSimpArgs false
open Go.Lib (hid)
section
namespace Go.Proofs.YtfpoabeihpfeiaaGreat.Rc
open Go.RowKit
def EncRaw (w : World) (O : Paint) (c a : Nat) (e : Enc) : Prop := ∃ g cap,
 Blk w O c a (.cells #[.slice (some ⟨g, 0, none⟩) (e.turns + 1) cap, .int .u32 ((e.low % 4294967296 : Nat) : Int), .int .u32 e.size] 107 (0, 0)) /\
 Held w O c 5 (.slice (some ⟨g, 0, none⟩) (e.turns + 1) cap) ((0 :: be e.turns (e.low / 4294967296)).map byte)
def EncAt (w : World) (O : Paint) (c a : Nat) (e : Enc) : Prop := EncRaw w O c a e /\ Fine e
theorem EncRaw.step {cs : List Nat} {w w' : World} {O O' : Paint} {c a : Nat} {e : Enc} (h : EncRaw w O c a e) (hs : Step cs w O w' O') (hc : c ∉ cs) : EncRaw w' O' c a e := by
 obtain ⟨g, cap, h1, h2⟩ := h
 exact ⟨g, cap, h1.step hs hc, h2.step hs hc⟩
theorem EncAt.step {cs : List Nat} {w w' : World} {O O' : Paint} {c a : Nat} {e : Enc} (h : EncAt w O c a e) (hs : Step cs w O w' O') (hc : c ∉ cs) : EncAt w' O' c a e := ⟨h.1.step hs hc, h.2⟩
theorem three {w : World} {X : Nat} {a b c : Value} {t : TypeId} (h : w.heap[X]? = some (.cells #[a, b, c] t (0, 0))) :
  w.cell? ⟨X, 0, none⟩ = some a /\ w.cell? ⟨X, 1, none⟩ = some b /\ w.cell? ⟨X, 2, none⟩ = some c /\ w.frozen? ⟨X, 0, none⟩ = false /\ w.frozen? ⟨X, 1, none⟩ = false /\ w.frozen? ⟨X, 2, none⟩ = false :=
 ⟨by simp [World.cell?, h], by simp [World.cell?, h], by simp [World.cell?, h], by simp [World.frozen?, h], by simp [World.frozen?, h], by simp [World.frozen?, h]⟩
theorem raise_yes {w : World} {O : Paint} {c a : Nat} {e : Enc} (h : EncRaw w O c a e) (n : Nat) (hn : n < 4294967296) (hv : e.low % 4294967296 + n < 4294967296) :
  Calls Tryz.prog 131 #[.pointer (some ⟨a, 0, none⟩), .int .u32 n] w fun x w' => x = .returned (.tuple #[]) /\ Step [c] w O w' O /\ EncRaw w' O c a ⟨e.low + n, e.size, e.turns⟩ := by
 obtain ⟨g, cap, hb, hr⟩ := h
 obtain ⟨h0, h1, h2, f0, f1, f2⟩ := three hb.1
 have HB := hid hb
 have HR := hid hr
 have HM := hid (show (e.low + n) % 4294967296 = e.low % 4294967296 + n by omega)
 have HD := hid (show (e.low + n) / 4294967296 = e.low / 4294967296 by omega)
 clear hb hr h0 f0 h2 f2
 have hlo : e.low % 4294967296 < 4294967296 := by omega
 generalize e.low % 4294967296 = lo at *
 go_enter Tryz.func131, Tryz.ntmps131
 go_wp2
 first | go_end0 | (simp only [Exit.inBlock, Exit.then]; refine bodyPost_ret (results_none rfl _ _ _) rfl ?_) | refine bodyPost_ret (results_none rfl _ _ _) rfl ?_
 refine ⟨rfl, (Step.refl [c] w O).setCell (p := ⟨a, 1, none⟩) (.inl (by simp [HB.out.2])) _, g, cap, ?_, ?_⟩
 · have := HB.out.setCell 1 (.int .u32 ((lo : Int) + (n : Int)))
   simp only [HM.out]
   simpa using this
 · simp only [HD.out]
   exact HR.out.setCell_other (p := ⟨a, 1, none⟩) (fun e1 => HR.out.ne HB.out.1 (by decide) (by simpa [Value.ownBlock] using e1)) _
def Raising (w : World) (O : Paint) (c a g cap t H j : Nat) (low size : Int) (wr : World) : Prop :=
 Blk wr O c a (.cells #[.slice (some ⟨g, 0, none⟩) (t + 1) cap, .int .u32 low, .int .u32 size] 107 (0, 0)) /\
 Held wr O c 5 (.slice (some ⟨g, 0, none⟩) (t + 1) cap) ((0 :: mix t j H 1).map byte) /\ Step [c] w O wr O
theorem Raising.set {w wr : World} {O : Paint} {c a g cap t H j q : Nat} {low size y : Int} (h : Raising w O c a g cap t H j low size wr) (hq : q + j = t) (hq1 : 1 <= q) (hc : carry j H 1 = 1) (hy : y = ((H / 256 ^ j % 256 + 1) % 256 : Nat)) : Raising w O c a g cap t H (j + 1) low size (wr.setCell ⟨g, q, none⟩ (.int .u8 y)) := by
 obtain ⟨h1, h2, h3⟩ := h
 refine ⟨h1.setCell_other (p := ⟨g, q, none⟩) (h2.ne h1.1 (by decide)) _, ?_, h3.setCell (p := ⟨g, q, none⟩) (.inl (by simp [h2.paint g rfl])) _⟩
 have hs := h2.set q (.int .u8 y)
 have hm := mix_set t j H 1 (by omega)
 rw [show t - 1 - j = q - 1 from by omega] at hm
 have hb : Value.int .u8 y = byte (UInt8.ofNat ((H + 1) / 256 ^ j)) := by
  unfold byte
  have hd := digit_sum j H 1
  rw [hc] at hd
  rw [hy]
  have hx : (UInt8.ofNat ((H + 1) / 256 ^ j)).toNat = (H + 1) / 256 ^ j % 256 := by simp
  rw [hx, hd, Nat.add_comm]
 rw [hb] at hs ⊢
 rw [<- List.map_set] at hs
 obtain ⟨q', rfl⟩ : ∃ q', q = q' + 1 := ⟨q - 1, by omega⟩
 rw [List.set_cons_succ] at hs
 simp only [Nat.add_sub_cancel] at hm
 rw [hm] at hs
 exact hs
theorem Raising.cell {w wr : World} {O : Paint} {c a g cap t H j q : Nat} {low size : Int} (h : Raising w O c a g cap t H j low size wr) (hq : q + j = t) (hq1 : 1 <= q) : wr.cell? ⟨g, q, none⟩ = some (.int .u8 ((H / 256 ^ j % 256 : Nat) : Int)) := by
 refine h.2.1.cell ?_
 obtain ⟨q', rfl⟩ : ∃ q', q = q' + 1 := ⟨q - 1, by omega⟩
 have := mix_at t j H 1 (by omega)
 rw [show t - 1 - j = q' from by omega] at this
 simp [this, byte]
theorem carried (t H j : Nat) (hj : j < t) (hc : carry j H 1 = 1) (hz : H / 256 ^ j % 256 ≠ 255) : mix t (j + 1) H 1 = be t (H + 1) := by
 have h0 : carry (j + 1) H 1 = 0 := by rw [carry_succ, hc]; omega
 have hd : (H + 1) / 256 ^ (j + 1) = H / 256 ^ (j + 1) := by
  unfold carry at h0
  have hp : 0 < 256 ^ (j + 1) := Nat.pow_pos (by omega)
  have e : (H + 1) / 256 ^ (j + 1) = (H % 256 ^ (j + 1) + 1) / 256 ^ (j + 1) + H / 256 ^ (j + 1) := by
   rw [<- Nat.add_mul_div_left _ _ hp]
   congr 1
   have := Nat.mod_add_div H (256 ^ (j + 1))
   omega
  rw [e, h0, Nat.zero_add]
 unfold mix
 have := be_split (t - (j + 1)) (j + 1) (H + 1)
 rw [show t - (j + 1) + (j + 1) = t from by omega, hd] at this
 exact this.symm
theorem carries (H j : Nat) (hc : carry j H 1 = 1) (hz : H / 256 ^ j % 256 = 255) : carry (j + 1) H 1 = 1 := by
 rw [carry_succ, hc, hz]
theorem carry_out (t H : Nat) (h : H + 1 < 256 ^ t) : carry t H 1 ≠ 1 := by
 unfold carry
 rw [Nat.mod_eq_of_lt (by omega), Nat.div_eq_of_lt h]; omega
theorem raise_no {w : World} {O : Paint} {c a : Nat} {e : Enc} (h : EncRaw w O c a e) (ht : e.turns <= 1000000) (n : Nat) (hn : n < 4294967296) (hv : 4294967296 <= e.low % 4294967296 + n) (hl : e.low + n < 256 ^ (e.turns + 4)) :
  Calls Tryz.prog 131 #[.pointer (some ⟨a, 0, none⟩), .int .u32 n] w fun x w' => x = .returned (.tuple #[]) /\ Step [c] w O w' O /\ EncRaw w' O c a ⟨e.low + n, e.size, e.turns⟩ := by
 obtain ⟨g, cap, hb, hr⟩ := h
 obtain ⟨h0, h1, h2, f0, f1, f2⟩ := three hb.1
 have HM := hid (show (((e.low + n) % 4294967296 : Nat) : Int) = ((e.low % 4294967296 : Nat) : Int) + (n : Int) - 4294967296 by omega)
 have HD := hid (show (e.low + n) / 4294967296 = e.low / 4294967296 + 1 by omega)
 have hlo : e.low % 4294967296 < 4294967296 := by omega
 have HH : Hid (e.low / 4294967296 + 1 < 256 ^ e.turns) := hid (by
  rw [<- HD.out, Nat.div_lt_iff_lt_mul (by omega), show (4294967296 : Nat) = 256 ^ 4 from rfl, <- Nat.pow_add]; exact hl)
 obtain ⟨lo, s, t⟩ := e
 simp only at *
 generalize lo / 4294967296 = H at *
 have HB := hid hb
 have HR := hid hr
 have HL := hid hl
 clear hb hr h2 f2 hl
 go_enter Tryz.func131, Tryz.ntmps131
 go_wp2
 have H0 : Hid (Raising w O c a g cap t H 0 (((lo : Int) + (n : Int)) % 4294967296) (s : Int) (w.setCell ⟨a, 1, none⟩ (.int .u32 (((lo : Int) + (n : Int)) % 4294967296)))) := hid (by
  refine ⟨?_, ?_, (Step.refl [c] w O).setCell (p := ⟨a, 1, none⟩) (.inl (by simp [HB.out.2])) _⟩
  · simpa using HB.out.setCell 1 (.int .u32 (((lo : Int) + (n : Int)) % 4294967296))
  · rw [mix_zero]
    exact HR.out.setCell_other (p := ⟨a, 1, none⟩) (fun e1 => HR.out.ne HB.out.1 (by decide) (by simpa [Value.ownBlock] using e1)) _)
 have HMI := hid (show (((lo + n) % 4294967296 : Nat) : Int) = ((lo : Int) + (n : Int)) % 4294967296 by omega)
 clear h0 f0 h1 f1 hlo hv
 go_loopw [4] (fun i wr => ∃ q j : Nat, q + j = t /\ i = .int .i64 q /\ carry j H 1 = 1 /\ Raising w O c a g cap t H j (((lo : Int) + (n : Int)) % 4294967296) (s : Int) wr) (fun i _ => (intOf i).toNat)
 case atStart => exact ⟨t, 0, rfl, rfl, by rw [carry_zero], H0.out⟩
 case round =>
  clear H0
  obtain ⟨q, j, hq, rfl, hc, hra⟩ := hrel
  have hq1 : 1 <= q := by
   rcases Nat.lt_or_ge 0 q with h | h
   · exact h
   · obtain rfl : q = 0 := by omega
     rw [Nat.zero_add] at hq
     subst hq
     exact absurd hc (carry_out j H HH.out)
  have hcell := hra.cell hq hq1
  have hfr := hra.2.1.free q
  have hset := fun y hy => hra.set (y := y) hq hq1 hc hy
  obtain ⟨h0, h1, h2, f0, f1, f2⟩ := three hra.1.1
  have hbl : a ≠ g := fun e1 => hra.2.1.ne hra.1.1 (by decide) e1.symm
  have HSet := hid hset
  have HC := hid hc
  have HQ := hid hq
  have hqt : q <= t := by omega
  clear hset hc hra h1 h2 f0 f1 f2 hq
  have hx : H / 256 ^ j % 256 < 256 := by omega
  by_cases hz : H / 256 ^ j % 256 = 255
  · have HZ := hid (carries H j HC.out hz)
    have HY := hid (HSet.out 0 (by rw [hz]; rfl))
    rw [hz] at hcell
    clear hz hx HSet
    go_wp2
    go_roundw
    case rel => exact ⟨q - 1, j + 1, by have := HQ.out; omega, by go_num, HZ.out, HY.out⟩
    case measure => simp [intOf]; omega
  · have HZ := hid (carried t H j (by have := HQ.out; omega) HC.out hz)
    have HY := hid (HSet.out (((H / 256 ^ j % 256 : Nat) : Int) + 1) (by omega))
    clear HSet
    generalize H / 256 ^ j % 256 = x at *
    have hx2 : x < 255 := by omega
    clear hz
    go_wp2
    first | go_end0 | (simp only [Exit.inBlock, Exit.then]; refine bodyPost_ret (results_none rfl _ _ _) rfl ?_) | refine bodyPost_ret (results_none rfl _ _ _) rfl ?_
    obtain ⟨y1, y2, y3⟩ := HY.out
    refine ⟨rfl, y3, g, cap, ?_, ?_⟩
    · simp only [HMI.out]; exact y1
    · rw [HZ.out] at y2
      simp only [HD.out]; exact y2
theorem raise_any {w : World} {O : Paint} {c a : Nat} {e : Enc} (h : EncRaw w O c a e) (ht : e.turns <= 1000000) (n : Nat) (hn : n < 4294967296) (hl : e.low + n < 256 ^ (e.turns + 4)) :
  Calls Tryz.prog 131 #[.pointer (some ⟨a, 0, none⟩), .int .u32 n] w fun x w' => x = .returned (.tuple #[]) /\ Step [c] w O w' O /\ EncRaw w' O c a ⟨e.low + n, e.size, e.turns⟩ := by
 by_cases hv : e.low % 4294967296 + n < 4294967296
 · exact raise_yes h n hn hv
 · exact raise_no h ht n hn (by omega) hl
end Go.Proofs.YtfpoabeihpfeiaaGreat.Rc
end
section
namespace Go.Proofs.YtfpoabeihpfeiaaGreat.Rc
open Go.RowKit
def Turning (w : World) (O : Paint) (c a : Nat) (e : Enc) (r : Nat) (wr : World) : Prop := ∃ (e' : Enc) (O' : Paint), r <= 3 /\ turnN r e' = widen e /\ Raw e' /\ 16777216 <= e'.size * 256 ^ r /\ e'.turns <= e.turns + 3 - r /\ EncRaw wr O' c a e' /\ Step [c] w O wr O'
theorem turn_bytes (lo t : Nat) : (0 :: be t (lo / 4294967296)).map byte ++ [.int .u8 ((lo % 4294967296 / 16777216 % 256 : Nat) : Int)] = (0 :: be (t + 1) (lo * 256 / 4294967296)).map byte := by
 have h1 : lo * 256 / 4294967296 = lo / 16777216 := by omega
 rw [h1]
 show _ = (0 :: (be t (lo / 16777216 / 256) ++ [UInt8.ofNat (lo / 16777216)])).map byte
 rw [Nat.div_div_eq_div_mul]
 simp only [List.map_cons, List.map_append, List.map_nil, List.cons_append, byte]
 congr 5
 simp
 omega
theorem turned {wr w2 : World} {O : Paint} {c a g cap lo s t g2 cap2 : Nat} {o : Obj} {u v : Int} (hb : Blk wr O c a (.cells #[.slice (some ⟨g, 0, none⟩) (t + 1) cap, .int .u32 ((lo % 4294967296 : Nat) : Int), .int .u32 s] 107 (0, 0)))
  (hr : Held wr O c 5 (.slice (some ⟨g, 0, none⟩) (t + 1) cap) ((0 :: be t (lo / 4294967296)).map byte))
  (ho : w2.ownsRow 0 5 1 (.slice (some ⟨g2, 0, none⟩) (t + 1 + 1) cap2) (t + 1 + 1) ((0 :: be t (lo / 4294967296)).map byte ++ [.int .u8 ((lo % 4294967296 / 16777216 % 256 : Nat) : Int)]))
  (hg : ((wr.alloc o).drew).grownBy w2 (Value.slice (some ⟨g, 0, none⟩) (t + 1) cap).ownBlock) (hat : (Value.slice (some ⟨g, 0, none⟩) (t + 1) cap).ownBlock = some g2 \/ g2 = wr.heap.size + 1)
  (hu : u = ((lo * 256 % 4294967296 : Nat) : Int)) (hv : v = ((s * 256 : Nat) : Int)) :
  EncRaw (((w2.setCell ⟨a, 0, none⟩ (.slice (some ⟨g2, 0, none⟩) (t + 1 + 1) cap2)).setCell ⟨a, 1, none⟩ (.int .u32 u)).setCell ⟨a, 2, none⟩ (.int .u32 v)) (Step.paint O wr c) c a ⟨lo * 256, s * 256, t + 1⟩ /\
  Step [c] wr O (((w2.setCell ⟨a, 0, none⟩ (.slice (some ⟨g2, 0, none⟩) (t + 1 + 1) cap2)).setCell ⟨a, 1, none⟩ (.int .u32 u)).setCell ⟨a, 2, none⟩ (.int .u32 v)) (Step.paint O wr c) := by
 subst hu hv
 have hne : g ≠ a := hr.ne hb.1 (by decide)
 have hlt := hb.lt
 have hgl := hr.lt (k := g) rfl
 have hgw : (wr.alloc o).grownBy w2 (some g) := ⟨hg.os, hg.tape, hg.output, hg.size, hg.block⟩
 have s0 : Step [c] wr O w2 (Step.paint O wr c) := (((Step.refl [c] wr O).alloc o).grown hgw (fun k hk => .inl (by simp at hk; subst hk; simp [hr.paint g rfl]))).repaint c
 have hba : w2.heap[a]? = wr.heap[a]? := by
  rw [hgw.block a (by rw [World.size_alloc]; omega) (fun e1 => hne (by simpa using e1.symm)), Below.heap_alloc wr o a hlt]
 have hb2 : Blk w2 (Step.paint O wr c) c a (.cells #[.slice (some ⟨g, 0, none⟩) (t + 1) cap, .int .u32 ((lo % 4294967296 : Nat) : Int), .int .u32 s] 107 (0, 0)) := ⟨hba.trans hb.1, by rw [Step.paint_old hlt]; exact hb.2⟩
 have hr2 : Held w2 (Step.paint O wr c) c 5 (.slice (some ⟨g2, 0, none⟩) (t + 1 + 1) cap2) ((0 :: be (t + 1) (lo * 256 / 4294967296)).map byte) := by
  rw [turn_bytes] at ho
  refine hr.moved ?_ ?_
  · simpa [be_length] using ho
  · rcases hat with e1 | e1
    · exact .inl e1.symm
    · exact .inr fun k hk => by simp [Value.ownBlock] at hk; omega
 have hne2 : g2 ≠ a := hr2.ne hb2.1 (by decide)
 have hn2 : (Value.slice (some ⟨g2, 0, none⟩) (t + 1 + 1) cap2).ownBlock ≠ some a := by simp [Value.ownBlock]; exact hne2
 refine ⟨⟨g2, cap2, ?_, ?_⟩, ?_⟩
 · simpa using ((hb2.setCell 0 (.slice (some ⟨g2, 0, none⟩) (t + 1 + 1) cap2)).setCell 1 (.int .u32 ((lo * 256 % 4294967296 : Nat) : Int))).setCell 2 (.int .u32 ((s * 256 : Nat) : Int))
 · exact ((hr2.setCell_other (p := ⟨a, 0, none⟩) hn2 _).setCell_other (p := ⟨a, 1, none⟩) hn2 _).setCell_other (p := ⟨a, 2, none⟩) hn2 _
 · have hc : O a ∈ [c] := by simp [hb.2]
   exact ((s0.setCell (p := ⟨a, 0, none⟩) (.inl hc) _).setCell (p := ⟨a, 1, none⟩) (.inl hc) _).setCell (p := ⟨a, 2, none⟩) (.inl hc) _
theorem after8 {wr w2 : World} {O : Paint} {c a g n cap : Nat} {ds : Array Value} {xs : List Value} {o : Obj} (hb : Blk wr O c a (.cells ds 107 (0, 0))) (hr : Held wr O c 5 (.slice (some ⟨g, 0, none⟩) n cap) xs)
  (hg : ((wr.alloc o).drew).grownBy w2 (Value.slice (some ⟨g, 0, none⟩) n cap).ownBlock) : w2.heap[a]? = some (.cells ds 107 (0, 0)) := by
 have hne : g ≠ a := hr.ne hb.1 (by decide)
 have hgw : (wr.alloc o).grownBy w2 (some g) := ⟨hg.os, hg.tape, hg.output, hg.size, hg.block⟩
 have hlt := hb.lt
 rw [hgw.block a (by rw [World.size_alloc]; omega) (fun e1 => hne (by simpa using e1.symm)), Below.heap_alloc wr o a hlt]
 exact hb.1
theorem one8 (x : Int) : ∀ u ∈ [Value.int .u8 x], u.oneCell' = true := by intro u hu; simp at hu; subst hu; rfl
theorem turn_any {w : World} {O : Paint} {c a : Nat} {e : Enc} (h : EncRaw w O c a e) (hr : Raw e) (ht : e.turns <= 1000000) :
  Calls Tryz.prog 111 #[.pointer (some ⟨a, 0, none⟩)] w fun x w' => x = .returned (.tuple #[]) /\ ∃ O', Step [c] w O w' O' /\ EncRaw w' O' c a (widen e) := by
 obtain ⟨i0, hi, hz0, hz1, hz2⟩ := info_parts info8
 have H0 : Turning w O c a e 3 w := ⟨e, O, by omega, rfl, hr, by have := hr.1; omega, by omega, h, Step.refl _ _ _⟩
 have HH := hid H0
 clear H0 h hr
 go_enter Tryz.func111, Tryz.ntmps111
 go_wp2
 go_loopg [6] 3 (fun r _ wr => Turning w O c a e r wr)
 case atStart => exact HH.out
 case round =>
  clear HH
  obtain ⟨⟨lo, s, t⟩, O1, hr3, ht1, hr1, hs1, htu, ⟨g, cap, hb, hh⟩, hst⟩ := hrel
  have hz : s < 4294967296 := hr1.2.1
  have hz' : 1 <= s := hr1.1
  simp only at htu hs1 hb hh
  obtain ⟨h0, h1, h2, f0, f1, f2⟩ := three hb.1
  have hblt := hb.lt
  have hne : g ≠ a := hh.ne hb.1 (by decide)
  have HB := hid hb
  have HHe := hid hh
  have HS1 := hid hs1
  have HR1 := hid hr1
  have HTU := hid htu
  have HR3 := hid hr3
  have HST := hid hst
  clear hs1 hr1 htu hr3 hb hh hst
  by_cases hlo : s < 16777216
  · have hd : decide ((s : Int) < 16777216) = true := by rw [decide_eq_true_iff]; omega
    have hgk : gk ≠ 0 := by
     rintro rfl
     have := HS1.out
     simp at this; omega
    obtain ⟨r, rfl⟩ : ∃ r, gk = r + 1 := ⟨gk - 1, by omega⟩
    have htn : turnN r ⟨lo * 256, s * 256, t + 1⟩ = widen e := by
     rw [<- ht1, turnN, turn_lo _ _ _ hlo]
    have HTN := hid htn
    have HLO := hid hlo
    have htl : t + 5 <= 2000000 := by have := HTU.out; omega
    have hb1 : t + 1 + 1 <= maxLen := by unfold maxLen; omega
    have hb2 : (t + 1 + 1) * 1 <= 140737488355328 := by omega
    clear ht1 htn hgk
    have HOWN := hid (fun o => ((show wr.ownsRow 0 5 1 (.slice (some ⟨g, 0, none⟩) (t + 1) cap) (t + 1) ((0 :: be t (lo / 4294967296)).map byte) by have h9 := HHe.out.row; simpa [be_length] using h9).alloc o).drew)
    have hL : lo % 4294967296 < 4294967296 := by omega
    have HW8 := hid (show IntKind.u8.wrap (((lo % 4294967296 : Nat) : Int) / 16777216) = ((lo % 4294967296 / 16777216 % 256 : Nat) : Int) by rw [IntKind.wrap_u8]; omega)
    have HU := hid (show ((lo % 4294967296 : Nat) : Int) * 256 % 4294967296 = ((lo * 256 % 4294967296 : Nat) : Int) by omega)
    generalize hLL : lo % 4294967296 = L at h1 hL HW8 HU
    have HLL := hid hLL
    clear hLL
    go_wp2
    go_region_law ((refine step_append_lies _ rfl _ _ 43 rfl 0 5 i0 (.int .u8 0) 1 1 Tryz.underlying43 hi hz0 hz1 hz2 rfl (by decide) (.slice (some ⟨g, 0, none⟩) (t + 1) cap) (t + 1) ((0 :: be t (lo / 4294967296)).map byte) (by simp [Act.eval]) (HOWN.out _) ⟨wr.heap.size, 0, none⟩ 1 1 [.int .u8 (IntKind.u8.wrap ((L : Int) / 16777216))] (by simp [Act.eval]) rfl (cell_one_new _ _ _) (one8 _) (by decide) hb1 hb2 (Nat.zero_le _) (wr.heap.size + 1) (by simp) ?_); intro g2 cap2 w2 hown2 hgr2 hat2 hlt2; have hcc := after8 HB.out HHe.out hgr2; rw [HLL.out] at hcc; obtain ⟨k0, k1, k2, l0, l1, l2⟩ := three hcc; have hlt3 := lt_of_heap hcc; have HO := hid hown2; have HGR := hid hgr2; have HAT := hid hat2; clear hown2 hgr2 hat2 hcc)
    all_goals
     have HOO : Hid (w2.ownsRow 0 5 1 (.slice (some ⟨g2, 0, none⟩) (t + 1 + 1) cap2) (t + 1 + 1) ((0 :: be t (lo / 4294967296)).map byte ++ [.int .u8 ((lo % 4294967296 / 16777216 % 256 : Nat) : Int)])) := hid (by rw [HLL.out, <- HW8.out]; exact HO.out)
     have HTT := hid (turned HB.out HHe.out HOO.out HGR.out HAT.out HU.out (v := (s : Int) * 256) (by omega))
     clear HOO HO HGR HAT
     go_wp2
     go_roundg r
     case measure => omega
     case rel =>
      obtain ⟨t1, t2⟩ := HTT.out
      have hraw := turn_raw HR1.out
      rw [turn_lo _ _ _ HLO.out] at hraw
      refine ⟨⟨lo * 256, s * 256, t + 1⟩, _, by have := HR3.out; omega, HTN.out, hraw, ?_, ?_, t1, HST.out.trans t2⟩
      · show 16777216 <= s * 256 * 256 ^ r
        rw [Nat.mul_assoc, Nat.mul_comm 256, <- Nat.pow_succ]; exact HS1.out
      · show t + 1 <= e.turns + 3 - r
        have := HTU.out
        have := HR3.out
        omega
  · have hd : decide ((s : Int) < 16777216) = false := by rw [decide_eq_false_iff_not]; omega
    have hk := turnN_keep gk (e := ⟨lo, s, t⟩) (by simp only; omega)
    rw [hk] at ht1
    have HT := hid ht1
    have HLO := hid hlo
    clear ht1 hk hlo hz hz'
    go_wp2
    first | go_end0 | (simp only [Exit.inBlock, Exit.then]; refine bodyPost_ret (results_none rfl _ _ _) rfl ?_) | refine bodyPost_ret (results_none rfl _ _ _) rfl ?_
    exact ⟨rfl, O1, HST.out, by rw [<- HT.out]; exact ⟨g, cap, HB.out, HHe.out⟩⟩
end Go.Proofs.YtfpoabeihpfeiaaGreat.Rc
end
section
namespace Go.Proofs.YtfpoabeihpfeiaaGreat.Rc
open Go.RowKit
theorem ret_bool {a b : Bool} (h : a = b) : Ending.returned (.bool a) = .returned (.bool b) := by rw [h]
theorem ret_num {k : IntKind} {a b : Int} (h : a = b) : Ending.returned (.int k a) = .returned (.int k b) := by rw [h]
theorem isprob_any {w : World} {q : Addr} {p : Nat} (hc : w.cell? q = some (.int .u16 p)) (h1 : 1 <= p) (h2 : p <= 2047) :
  Calls Tryz.prog 129 #[.pointer (some q)] w fun x w' => x = .returned (.bool true) /\ w = w' := by
 have g1 : decide ((1 : Int) <= (p : Int)) = true := by simp; omega
 have g2 : decide ((p : Int) < 2048) = true := by simp; omega
 go_enter Tryz.func129, Tryz.ntmps129
 go_wp2
 go_ret
 exact ⟨ret_bool (by simp), rfl⟩
theorem border_any (s p : Nat) (w : World) (hs : s < 4294967296) (hp : p <= 2047) :
  Calls Tryz.prog 130 #[.int .u32 s, .int .u16 p] w fun x w' => x = .returned (.int .u32 ((s / 2048 * p : Nat) : Int)) /\ w = w' := by
 have hm : s / 2048 * p < 4294967296 := by
  have h1 : s / 2048 * p <= s / 2048 * 2047 := Nat.mul_le_mul_left _ hp
  omega
 have HM := hid (show ((s : Int) / 2048 * (p : Int)) = ((s / 2048 * p : Nat) : Int) by simp)
 have hnn : (0 : Int) <= (s : Int) / 2048 * (p : Int) := by rw [HM.out]; omega
 have hnu : (s : Int) / 2048 * (p : Int) < 4294967296 := by rw [HM.out]; omega
 clear hm
 go_enter Tryz.func130, Tryz.ntmps130
 go_wp2
 go_ret
 exact ⟨ret_num (by rw [<- HM.out]), rfl⟩
theorem learn0_any {w : World} {q : Addr} {p : Nat} (hc : w.cell? q = some (.int .u16 p)) (hf : w.frozen? q = false) (h1 : 1 <= p) (h2 : p <= 2047) :
  Calls Tryz.prog 132 #[.pointer (some q), .int .i64 0] w fun x w' => x = .returned (.tuple #[]) /\ w' = (w.setCell q (.int .u16 ((learn p 0 : Nat) : Int))).drew := by
 have HL := hid (show ((learn p 0 : Nat) : Int) = (p : Int) + (2048 - (p : Int)) / 32 by show ((p + (2048 - p) / 32 : Nat) : Int) = _; omega)
 have e1 : IntKind.u16.wrap (2048 - (p : Int)) = 2048 - (p : Int) := IntWalk.u16_in _ (by omega)
 have e2 : IntKind.u16.wrap ((2048 - (p : Int)).tdiv 32) = (2048 - (p : Int)) / 32 := by rw [Int.tdiv_eq_ediv_of_nonneg (by omega)]; exact IntWalk.u16_in _ (by omega)
 have e3 : IntKind.u16.wrap ((p : Int) + (2048 - (p : Int)) / 32) = (p : Int) + (2048 - (p : Int)) / 32 := IntWalk.u16_in _ (by omega)
 rw [HL.out]
 go_enter Tryz.func132, Tryz.ntmps132
 go_wp2
 go_region
 all_goals
  go_end0
  exact ⟨rfl, rfl⟩
theorem learn1_any {w : World} {q : Addr} {p : Nat} (hc : w.cell? q = some (.int .u16 p)) (hf : w.frozen? q = false) (h1 : 1 <= p) (h2 : p <= 2047) :
  Calls Tryz.prog 132 #[.pointer (some q), .int .i64 1] w fun x w' => x = .returned (.tuple #[]) /\ w' = (w.setCell q (.int .u16 ((learn p 1 : Nat) : Int))).drew := by
 have HL := hid (show ((learn p 1 : Nat) : Int) = (p : Int) - (p : Int) / 32 by show ((p - p / 32 : Nat) : Int) = _; omega)
 have e2 : IntKind.u16.wrap ((p : Int).tdiv 32) = (p : Int) / 32 := by rw [Int.tdiv_eq_ediv_of_nonneg (by omega)]; exact IntWalk.u16_in _ (by omega)
 have e3 : IntKind.u16.wrap ((p : Int) - (p : Int) / 32) = (p : Int) - (p : Int) / 32 := IntWalk.u16_in _ (by omega)
 rw [HL.out]
 go_enter Tryz.func132, Tryz.ntmps132
 go_wp2
 go_region
 all_goals
  go_end0
  exact ⟨rfl, rfl⟩
theorem learn_dev {w : World} {q : Addr} {p b : Nat} (hc : w.cell? q = some (.int .u16 p)) (hf : w.frozen? q = false) (h1 : 1 <= p) (h2 : p <= 2047) (hb : b <= 1) :
  Calls Tryz.prog 132 #[.pointer (some q), .int .i64 b] w fun x w' => x = .returned (.tuple #[]) /\ w' = (w.setCell q (.int .u16 ((learn p b : Nat) : Int))).drew := by
 by_cases h0 : b = 0
 · subst h0; exact learn0_any hc hf h1 h2
 · obtain rfl : b = 1 := by omega
   exact learn1_any hc hf h1 h2
theorem _root_.Go.Proofs.YtfpoabeihpfeiaaGreat.Step.store (w : World) (O : Paint) (p : Addr) (u : Value) : Step [O p.block] w O (w.setCell p u) O := (Step.refl _ w O).setCell (.inl (by simp)) u
theorem EncRaw.width {w : World} {O : Paint} {c a : Nat} {e : Enc} (h : EncRaw w O c a e) (s : Nat) : EncRaw (w.setCell ⟨a, 2, none⟩ (.int .u32 s)) O c a ⟨e.low, s, e.turns⟩ /\ Step [c] w O (w.setCell ⟨a, 2, none⟩ (.int .u32 s)) O := by
 obtain ⟨g, cap, hb, hr⟩ := h
 refine ⟨⟨g, cap, ?_, ?_⟩, (Step.refl [c] w O).setCell (p := ⟨a, 2, none⟩) (.inl (by simp [hb.2])) _⟩
 · simpa using hb.setCell 2 (.int .u32 s)
 · exact hr.setCell_other (p := ⟨a, 2, none⟩) (fun e1 => hr.ne hb.1 (by decide) (by simpa [Value.ownBlock] using e1)) _
theorem EncRaw.cells {w : World} {O : Paint} {c a : Nat} {e : Enc} (h : EncRaw w O c a e) : w.cell? ⟨a, 2, none⟩ = some (.int .u32 e.size) /\ w.frozen? ⟨a, 2, none⟩ = false /\ a < w.heap.size /\ O a = c := by
 obtain ⟨g, cap, hb, hr⟩ := h
 obtain ⟨_, _, h2, _, _, f2⟩ := three hb.1
 exact ⟨h2, f2, hb.lt, hb.2⟩
theorem EncRaw.other {w : World} {O : Paint} {c a : Nat} {e : Enc} (h : EncRaw w O c a e) {p : Addr} (hp : O p.block ≠ c) (u : Value) : EncRaw (w.setCell p u) O c a e := h.step (Step.store w O p u) (by simpa using Ne.symm hp)
theorem EncRaw.drewN {w : World} {O : Paint} {c a : Nat} {e : Enc} (h : EncRaw w O c a e) (n : Nat) : EncRaw (w.drewN n) O c a e := h.step ((Step.refl [] w O).drewN n) (by simp)
theorem EncRaw.drew {w : World} {O : Paint} {c a : Nat} {e : Enc} (h : EncRaw w O c a e) : EncRaw w.drew O c a e := h.step ((Step.refl [] w O).drew) (by simp)
def Bitten (w : World) (O : Paint) (c a : Nat) (q : Addr) (p b : Nat) (e : Enc) (x : Ending) (w' : World) : Prop :=
 x = .returned (.tuple #[]) /\ ∃ O', Step [c] (w.setCell q (.int .u16 ((learn p b : Nat) : Int))) O w' O' /\ EncAt w' O' c a (e.bit p b)
theorem EncRaw.apart {w w1 : World} {O : Paint} {c : Nat} {q : Addr} {v : Value} (hs : Step [c] w O w1 O) (hO : O q.block ≠ c) (hq : w.cell? q = some v) (hf : w.frozen? q = false) : w1.cell? q = some v /\ w1.frozen? q = false :=
 have hl := block_lt_of_cell hq
 ⟨(hs.cell hl (by simpa using hO)).trans hq, (hs.frozen hl (by simpa using hO)).trans hf⟩
theorem encbit0 {w : World} {O : Paint} {c a : Nat} {e : Enc} {q : Addr} {p : Nat} (h : EncAt w O c a e) (ht : e.turns <= 999990) (hq : w.cell? q = some (.int .u16 p)) (hf : w.frozen? q = false) (hO : O q.block ≠ c) (h1 : 1 <= p) (h2 : p <= 2047) :
  Calls Tryz.prog 124 #[.pointer (some ⟨a, 0, none⟩), .pointer (some q), .int .i64 0] w (Bitten w O c a q p 0 e) := by
 obtain ⟨hraw, hfine⟩ := h
 have hb := bit_raw (b := 0) hfine h1 h2
 rw [if_pos rfl] at hb
 have HRAW := hid hraw
 have HF := hid (fine_bit (b := 0) hfine h1 h2)
 have HBE := hid (show e.bit p 0 = widen ⟨e.low, e.size / 2048 * p, e.turns⟩ from rfl)
 have HBD := hid (fun W => border_any e.size p W hfine.2.1 h2)
 obtain ⟨hc2, hf2, hal, hoa⟩ := hraw.cells
 have HO := hid hO
 have hne : q.block ≠ a := fun e1 => hO (by rw [e1]; exact hoa)
 generalize e.size / 2048 * p = B at *
 have HB := hid hb
 clear hraw hfine hb hoa hO
 go_enter Tryz.func124, Tryz.ntmps124
 go_wp2_with fail
 refine (isprob_any hq h1 h2).mono ?_
 rintro x w1 ⟨rfl, rfl⟩
 go_wp2_with fail
 go_quiet ((go_at_call 130; exact Calls.quiet_of_same (still (HBD.out _))))
 go_wp2_with fail
 obtain ⟨k1, k2⟩ := (HRAW.out.drewN nq).width B
 have hS : Step [c] w O ((w.drewN nq).setCell ⟨a, 2, none⟩ (.int .u32 B)) O := k2.from_drewN
 obtain ⟨c1, c2⟩ := EncRaw.apart hS HO.out hq hf
 generalize (w.drewN nq).setCell ⟨a, 2, none⟩ (.int .u32 B) = W1 at *
 refine (learn_dev c1 c2 h1 h2 (b := 0) (by omega)).mono ?_
 rintro x w2 ⟨rfl, rfl⟩
 have k3 := (k1.other HO.out (.int .u16 ((learn p 0 : Nat) : Int))).drew
 have hS2 := (hS.setCell_both (p := q) (by simpa using HO.out) (.int .u16 ((learn p 0 : Nat) : Int))).drew
 generalize (W1.setCell q (.int .u16 ((learn p 0 : Nat) : Int))).drew = W2 at *
 have K3 := hid k3
 have HS2 := hid hS2
 clear k1 k2 k3 hS hS2 c1 c2
 go_wp2_with fail
 refine (turn_any K3.out HB.out (by simp only; omega)).mono ?_
 rintro x w3 ⟨rfl, O3, hst, hen⟩
 have HST := hid hst
 have HEN := hid hen
 clear hst hen
 go_wp2
 first | go_end0 | (simp only [Exit.inBlock, Exit.then]; refine bodyPost_ret (results_none rfl _ _ _) rfl ?_) | refine bodyPost_ret (results_none rfl _ _ _) rfl ?_
 exact ⟨rfl, O3, HS2.out.trans HST.out, by rw [HBE.out]; exact HEN.out, HF.out⟩
theorem encbit1 {w : World} {O : Paint} {c a : Nat} {e : Enc} {q : Addr} {p : Nat} (h : EncAt w O c a e) (ht : e.turns <= 999990) (hq : w.cell? q = some (.int .u16 p)) (hf : w.frozen? q = false) (hO : O q.block ≠ c) (h1 : 1 <= p) (h2 : p <= 2047) :
  Calls Tryz.prog 124 #[.pointer (some ⟨a, 0, none⟩), .pointer (some q), .int .i64 1] w (Bitten w O c a q p 1 e) := by
 obtain ⟨hraw, hfine⟩ := h
 have hb := bit_raw (b := 1) hfine h1 h2
 rw [if_neg (by omega)] at hb
 have hbl := bound_lt hfine.1 h2
 have HRAW := hid hraw
 have HF := hid (fine_bit (b := 1) hfine h1 h2)
 have HBE := hid (show e.bit p 1 = widen ⟨e.low + e.size / 2048 * p, e.size - e.size / 2048 * p, e.turns⟩ from rfl)
 have HBD := hid (fun W => border_any e.size p W hfine.2.1 h2)
 obtain ⟨hc2, hf2, hal, hoa⟩ := hraw.cells
 have HO := hid hO
 have hne : q.block ≠ a := fun e1 => hO (by rw [e1]; exact hoa)
 generalize e.size / 2048 * p = B at *
 have hsz : e.size < 4294967296 := hfine.2.1
 have HL : Hid (e.low + B < 256 ^ (e.turns + 4)) := hid (by have := hfine.2.2; omega)
 have HB := hid hb
 clear hraw hfine hb hoa hO
 go_enter Tryz.func124, Tryz.ntmps124
 go_wp2_with fail
 refine (isprob_any hq h1 h2).mono ?_
 rintro x w1 ⟨rfl, rfl⟩
 go_wp2_with fail
 go_quiet ((go_at_call 130; exact Calls.quiet_of_same (still (HBD.out _))))
 go_wp2_with fail
 refine (raise_any (HRAW.out.drewN nq) (by omega) B (by omega) HL.out).mono ?_
 rintro x w1 ⟨rfl, hS1, hE1⟩
 have hS1' : Step [c] w O w1 O := hS1.from_drewN
 obtain ⟨m2, mf2, mal, moa⟩ := hE1.cells
 simp only at m2
 have HS1 := hid hS1'
 have HE1 := hid hE1
 have hBs : (B : Int) < (e.size : Int) := by omega
 have hBs2 : (e.size : Int) < 4294967296 := by omega
 clear hS1 hS1' hE1 moa
 have HSUB := hid (show (e.size : Int) - (B : Int) = ((e.size - B : Nat) : Int) by omega)
 go_wp2_with fail
 rw [HSUB.out]
 obtain ⟨k1, k2⟩ := HE1.out.width (e.size - B)
 have hS := HS1.out.trans k2
 obtain ⟨c1, c2⟩ := EncRaw.apart hS HO.out hq hf
 generalize w1.setCell ⟨a, 2, none⟩ (.int .u32 ((e.size - B : Nat) : Int)) = W1 at *
 refine (learn_dev c1 c2 h1 h2 (b := 1) (by omega)).mono ?_
 rintro x w2 ⟨rfl, rfl⟩
 have k3 := (k1.other HO.out (.int .u16 ((learn p 1 : Nat) : Int))).drew
 have hS2 := (hS.setCell_both (p := q) (by simpa using HO.out) (.int .u16 ((learn p 1 : Nat) : Int))).drew
 generalize (W1.setCell q (.int .u16 ((learn p 1 : Nat) : Int))).drew = W2 at *
 have K3 := hid k3
 have HS2 := hid hS2
 clear k1 k2 k3 hS hS2 c1 c2
 go_wp2_with fail
 refine (turn_any K3.out HB.out (by simp only; omega)).mono ?_
 rintro x w3 ⟨rfl, O3, hst, hen⟩
 have HST := hid hst
 have HEN := hid hen
 clear hst hen
 go_wp2
 first | go_end0 | (simp only [Exit.inBlock, Exit.then]; refine bodyPost_ret (results_none rfl _ _ _) rfl ?_) | refine bodyPost_ret (results_none rfl _ _ _) rfl ?_
 exact ⟨rfl, O3, HS2.out.trans HST.out, by rw [HBE.out]; exact HEN.out, HF.out⟩
theorem encbit {w : World} {O : Paint} {c a : Nat} {e : Enc} {q : Addr} {p b : Nat} (h : EncAt w O c a e) (ht : e.turns <= 999990) (hq : w.cell? q = some (.int .u16 p)) (hf : w.frozen? q = false) (hO : O q.block ≠ c) (h1 : 1 <= p) (h2 : p <= 2047) (hb : b <= 1) :
  Calls Tryz.prog 124 #[.pointer (some ⟨a, 0, none⟩), .pointer (some q), .int .i64 b] w (Bitten w O c a q p b e) := by
 by_cases h0 : b = 0
 · subst h0; exact encbit0 h ht hq hf hO h1 h2
 · obtain rfl : b = 1 := by omega
   exact encbit1 h ht hq hf hO h1 h2
end Go.Proofs.YtfpoabeihpfeiaaGreat.Rc
end
section
namespace Go.Proofs.YtfpoabeihpfeiaaGreat.Rc
open Go.RowKit
theorem and1_u32 (v i : Nat) (hv : v < 4294967296) : bits .and .u32 ((v : Int) / 2 ^ i) 1 = ((bitAt v i : Nat) : Int) := by
 have hle : v / 2 ^ i < 4294967296 := Nat.lt_of_le_of_lt (Nat.div_le_self _ _) hv
 have e := u32_and_nat (v / 2 ^ i) 1 hle (by omega)
 rw [nat_mask1] at e
 have h2 : ((v : Int) / 2 ^ i) = ((v / 2 ^ i : Nat) : Int) := by simp
 rw [h2]
 exact e
def Went (w : World) (O : Paint) (c a : Nat) (e : Enc) (x : Ending) (w' : World) : Prop := x = .returned (.tuple #[]) /\ ∃ O', Step [c] w O w' O' /\ EncAt w' O' c a e
def Directing (w : World) (O : Paint) (c a : Nat) (e : Enc) (wr : World) : Prop := ∃ O', Step [c] w O wr O' /\ EncAt wr O' c a e
theorem encdirect {w : World} {O : Paint} {c a : Nat} {e : Enc} (h : EncAt w O c a e) (ht : e.turns <= 999000) (v n : Nat) (hv : v < 4294967296) (hn : n <= 32) :
  Calls Tryz.prog 125 #[.pointer (some ⟨a, 0, none⟩), .int .u32 v, .int .i64 n] w (Went w O c a (directN v n e n)) := by
 have H0 := hid h
 have HF := hid (fine_directN h.2 v n)
 have HT := hid (directN_turns e v n)
 clear h
 go_enter Tryz.func125, Tryz.ntmps125
 go_wp2
 go_loopw [6, 14] (fun _ i wr => ∃ k : Nat, k <= n /\ i = .int .i64 k /\ Directing w O c a (directN v n e k) wr) (fun _ i _ => n - (intOf i).toNat)
 case atStart => exact ⟨0, by omega, rfl, O, Step.refl _ _ _, H0.out⟩
 case round =>
  clear H0
  obtain ⟨k, hk, rfl, O1, hst, hen⟩ := hrel
  by_cases hlt : k < n
  · have hT := HT.out k
    have hstep : directN v n e (k + 1) = (directN v n e k).direct (bitAt v (n - 1 - k)) := rfl
    have HSTEP := hid hstep
    clear hstep
    generalize directN v n e k = E at *
    obtain ⟨hraw, hfine⟩ := hen
    obtain ⟨hc2, hf2, hal, hoa⟩ := hraw.cells
    have HRAW := hid hraw
    have HFI := hid hfine
    have HST := hid hst
    have hsz : E.size < 4294967296 := hfine.2.1
    clear hraw hfine hoa hst
    have hbit := and1_u32 v (n - 1 - k) hv
    have hb1 := bitAt_le v (n - 1 - k)
    have HRB := hid (direct_raw HFI.out (bitAt v (n - 1 - k)))
    have HDI := hid (show E.direct (bitAt v (n - 1 - k)) = widen ⟨if bitAt v (n - 1 - k) = 1 then E.low + E.size / 2 else E.low, E.size / 2, E.turns⟩ from rfl)
    have HFD := hid (fine_direct HFI.out (bitAt v (n - 1 - k)))
    have hdiv : ((E.size : Int) / 2) = ((E.size / 2 : Nat) : Int) := by simp
    have HDIV := hid hdiv
    have HL : Hid (E.low + E.size / 2 < 256 ^ (E.turns + 4)) := hid (by have := HFI.out.2.2; have := HFI.out.1; omega)
    obtain ⟨k1, k2⟩ := HRAW.out.width (E.size / 2)
    have hWW : wr.setCell ⟨a, 2, none⟩ (.int .u32 ((E.size / 2 : Nat) : Int)) = wr.setCell ⟨a, 2, none⟩ (.int .u32 ((E.size : Int) / 2)) := by rw [hdiv]
    rw [hWW] at k1 k2
    have K1 := hid k1
    have K2 := hid k2
    clear hdiv hWW k1 k2
    generalize bitAt v (n - 1 - k) = b at *
    rcases (show b = 0 \/ b = 1 by omega) with h0 | h0
    · subst h0
      rw [if_neg (by omega)] at HRB HDI
      go_wp2_with fail
      clear hbit
      refine (turn_any K1.out HRB.out (by simp only; omega)).mono ?_
      rintro x w3 ⟨rfl, O3, hst3, hen3⟩
      have HST3 := hid hst3
      have HEN3 := hid hen3
      clear hst3 hen3
      go_wp2
      go_roundw
      case rel => exact ⟨k + 1, by omega, by go_num, O3, (HST.out.trans K2.out).trans HST3.out, by rw [HSTEP.out, HDI.out]; exact HEN3.out, by rw [HSTEP.out]; exact HFD.out⟩
      case measure => simp [intOf]; omega
    · subst h0
      rw [if_pos rfl] at HRB HDI
      go_wp2_with fail
      clear hbit
      generalize wr.setCell ⟨a, 2, none⟩ (.int .u32 ((E.size : Int) / 2)) = W1 at *
      rw [HDIV.out]
      refine (raise_any K1.out (by simp only; omega) (E.size / 2) (by omega) HL.out).mono ?_
      rintro x w2 ⟨rfl, hst2, hen2⟩
      have HST2 := hid hst2
      have HEN2 := hid hen2
      clear hst2 hen2
      go_wp2_with fail
      refine (turn_any HEN2.out HRB.out (by simp only; omega)).mono ?_
      rintro x w3 ⟨rfl, O3, hst3, hen3⟩
      have HST3 := hid hst3
      have HEN3 := hid hen3
      clear hst3 hen3
      go_wp2
      go_roundw
      case rel => exact ⟨k + 1, by omega, by go_num, O3, ((HST.out.trans K2.out).trans HST2.out).trans HST3.out, by rw [HSTEP.out, HDI.out]; exact HEN3.out, by rw [HSTEP.out]; exact HFD.out⟩
      case measure => simp [intOf]; omega
  · obtain rfl : k = n := by omega
    have HST := hid hst
    have HEN := hid hen
    clear hst hen
    go_wp2
    first | go_end0 | (simp only [Exit.inBlock, Exit.then]; refine bodyPost_ret (results_none rfl _ _ _) rfl ?_) | refine bodyPost_ret (results_none rfl _ _ _) rfl ?_
    exact ⟨rfl, O1, HST.out, HEN.out⟩
theorem _root_.Go.Proofs.YtfpoabeihpfeiaaGreat.Held.text {w : World} {O : Paint} {c : Nat} {g n cap : Nat} {l : List UInt8} (h : Held w O c 5 (.slice (some ⟨g, 0, none⟩) n cap) (l.map byte)) (hl : l.length = n) : (convert 43 9 (.slice (some ⟨g, 0, none⟩) n cap)).run Tryz.prog w = .ok (.string ⟨l.toArray⟩) w := by
 subst hl
 exact run_convert_bytes_back w 43 9 5 ⟨g, 0, none⟩ cap l Tryz.underlying43 Tryz.underlying5 Tryz.underlying9 (fun j hj => by
  have hplain : (⟨g, 0, none⟩ : Addr).add j = ⟨g, j, none⟩ := by unfold Addr.add; split <;> simp_all
  rw [hplain]; exact h.cell (by simp [hj, byte]))
theorem new_enc (w : World) (O : Paint) (c : Nat) : Calls Tryz.prog 29 #[] w fun x w' => ∃ a, x = .returned (.pointer (some ⟨a, 0, none⟩)) /\ w.heap.size <= a /\ ∃ O', Step [] w O w' O' /\ EncAt w' O' c a Enc.start := by
 go_enter Tryz.func29, Tryz.ntmps29
 go_wp2
 go_ret
 refine ⟨_, rfl, by omega, Step.paint O w c, (((Step.refl [] w O).alloc _).alloc _).repaint c, ⟨w.heap.size, 1, ⟨?_, Step.paint_new (by omega)⟩, ⟨?_, fun k hk => Step.paint_new (by simp [Value.ownBlock] at hk; omega)⟩⟩, fine_start⟩
 · have := heap_alloc_new (w.alloc (.cells #[.int .u8 0] 5)) (.cells #[.slice (some ⟨w.heap.size, 0, none⟩) 1 1, .int .u32 0, .int .u32 4294967295] 107)
   rw [World.size_alloc] at this
   exact this
 · refine ⟨rfl, .inr ⟨w.heap.size, 1, #[.int .u8 0], rfl, Nat.zero_le _, ?_, Nat.le_refl _, by unfold maxLen; omega, rfl, rfl⟩⟩
   rw [Below.heap_alloc _ _ _ (by simp)]
   exact heap_alloc_new w _
theorem enc_end {w : World} {O : Paint} {c a : Nat} {e : Enc} (h : EncAt w O c a e) (ht : e.turns <= 1000000) :
  Calls Tryz.prog 32 #[.pointer (some ⟨a, 0, none⟩)] w fun x w' => x = .returned (.string ⟨e.bytes.toArray⟩) /\ Below w.heap.size w w' := by
 obtain ⟨⟨g, cap, hb, hr⟩, hfine⟩ := h
 obtain ⟨h0, h1, h2, f0, f1, f2⟩ := three hb.1
 have hlo : e.low % 4294967296 < 4294967296 := by omega
 have HBY : Hid ((⟨(0 :: be e.turns (e.low / 4294967296)).toArray⟩ : ByteArray) ++ ⟨(be 4 (e.low % 4294967296)).toArray⟩ = ⟨e.bytes.toArray⟩) := hid (by
  apply ByteArray.ext
  apply Array.toList_inj.1
  have h4 := be_split e.turns 4 e.low
  have hm : be 4 (e.low % 4294967296) = be 4 e.low := by
   simp only [be, List.nil_append, List.cons_append, List.cons.injEq, and_true]
   refine ⟨?_, ?_, ?_, ?_⟩ <;> (apply UInt8.toNat_inj.1; simp <;> omega)
  simp [Enc.bytes, h4, hm])
 generalize hLL : e.low % 4294967296 = L at *
 have HR := hid hr
 have HB := hid hb
 have hle := hb.lt
 have hlen := be_length e.turns (e.low / 4294967296)
 generalize be e.turns (e.low / 4294967296) = l at *
 clear hLL hr hb hfine
 go_enter Tryz.func32, Tryz.ntmps32
 go_wp2
 go_region
 go_wp2
 have hS : Step [] w O (w.alloc (.cells #[.int .u8 ((L : Int) / 16777216), .int .u8 ((L : Int) / 65536 % 256), .int .u8 ((L : Int) / 256 % 256), .int .u8 ((L : Int) % 256)] 5)).drew O := ((Step.refl [] w O).alloc _).drew
 have h4 : Held (w.alloc (.cells #[.int .u8 ((L : Int) / 16777216), .int .u8 ((L : Int) / 65536 % 256), .int .u8 ((L : Int) / 256 % 256), .int .u8 ((L : Int) % 256)] 5)).drew (fun _ => 0) 0 5 (.slice (some ⟨w.heap.size, 0, none⟩) 4 4) ((be 4 L).map byte) := by
  refine ⟨⟨rfl, .inr ⟨w.heap.size, 4, _, rfl, Nat.zero_le _, heap_alloc_new w _, Nat.le_refl _, by unfold maxLen; omega, rfl, ?_⟩⟩, fun _ _ => rfl⟩
  simp only [be, byte, List.nil_append, List.cons_append, List.map_cons, List.map_nil]
  simp
  omega
 have hbl : Below w.heap.size w (w.alloc (.cells #[.int .u8 ((L : Int) / 16777216), .int .u8 ((L : Int) / 65536 % 256), .int .u8 ((L : Int) / 256 % 256), .int .u8 ((L : Int) % 256)] 5)).drew := (Frame.below (B := w.heap.size) (own := fun _ => False) ((Frame.refl _ w).alloc _).drew (Nat.le_refl _) (fun _ _ h => h))
 have hr2 := HR.out.step hS (by simp)
 have hb2 := HB.out.step hS (by simp)
 generalize (w.alloc (.cells #[.int .u8 ((L : Int) / 16777216), .int .u8 ((L : Int) / 65536 % 256), .int .u8 ((L : Int) / 256 % 256), .int .u8 ((L : Int) % 256)] 5)).drew = W2 at *
 have t1 := fun n => (hr2.step ((Step.refl [] W2 O).drewN n) (by simp)).text (by simp [hlen])
 have t2 := fun n => (h4.step ((Step.refl [] W2 _).drewN n) (by simp)).text (be_length 4 L)
 obtain ⟨k0, _, _, _, _, _⟩ := three hb2.1
 have HBel := hid hbl
 clear hS h4 hbl hr2 hb2 h0 h1 h2 f0 f1 f2
 obtain ⟨U, hU⟩ : ∃ U : ByteArray, U = ⟨(0 :: l).toArray⟩ := ⟨_, rfl⟩
 obtain ⟨V, hV⟩ : ∃ V : ByteArray, V = ⟨(be 4 L).toArray⟩ := ⟨_, rfl⟩
 rw [<- hU] at t1 HBY
 rw [<- hV] at t2 HBY
 have hUs : U.size <= 1000004 := by rw [hU]; show (0 :: l).toArray.size <= _; simp; omega
 have hVs : V.size <= 4 := by rw [hV]; exact Nat.le_refl _
 clear hU hV hlen
 go_quiet (fail)
 go_wp2
 go_ret
 exact ⟨by rw [<- HBY.out]; rfl, HBel.out.os, HBel.out.tape, HBel.out.output, HBel.out.size, HBel.out.block⟩
end Go.Proofs.YtfpoabeihpfeiaaGreat.Rc
end
