/-
  Contracts of the developers' encoder of layer 3, more: its turns.
-/
import Derived.Test.YtakbocaemlgbaaaRcEnc
import Derived.Deep.RegionLaw
import Derived.Deep.AppendLies
namespace Go.Proofs.Ytakbocaemlgbaaa.Rc
open Go.RowKit
/-- Within the loop of the turns: at most r of them are to come. -/
def Turning (w : World) (O : Paint) (c a : Nat) (e : Enc) (r : Nat) (wr : World) : Prop := ∃ (e' : Enc) (O' : Paint), r ≤ 3 ∧ turnN r e' = widen e ∧ Raw e' ∧ 16777216 ≤ e'.size * 256 ^ r ∧ e'.turns ≤ e.turns + 3 - r ∧ EncRaw wr O' c a e' ∧ Step [c] w O wr O'
theorem turn_bytes (lo t : Nat) : (0 :: be t (lo / 4294967296)).map byte ++ [.int .u8 ((lo % 4294967296 / 16777216 % 256 : Nat) : Int)] = (0 :: be (t + 1) (lo * 256 / 4294967296)).map byte := by
  have h1 : lo * 256 / 4294967296 = lo / 16777216 := by omega
  rw [h1]
  show _ = (0 :: (be t (lo / 16777216 / 256) ++ [UInt8.ofNat (lo / 16777216)])).map byte
  rw [Nat.div_div_eq_div_mul]
  simp only [List.map_cons, List.map_append, List.map_nil, List.cons_append, byte]
  congr 5
  simp
  omega
theorem turned {wr w2 : World} {O : Paint} {c a g cap lo s t g2 cap2 : Nat} {o : Obj} {u v : Int} (hb : Blk wr O c a (.cells #[.slice (some ⟨g, 0, none⟩) (t + 1) cap, .int .u32 ((lo % 4294967296 : Nat) : Int), .int .u32 (s : Int)] 103 (0, 0)))
    (hr : Held wr O c 5 (.slice (some ⟨g, 0, none⟩) (t + 1) cap) ((0 :: be t (lo / 4294967296)).map byte))
    (ho : w2.ownsRow 0 5 1 (.slice (some ⟨g2, 0, none⟩) (t + 1 + 1) cap2) (t + 1 + 1) ((0 :: be t (lo / 4294967296)).map byte ++ [.int .u8 ((lo % 4294967296 / 16777216 % 256 : Nat) : Int)]))
    (hg : ((wr.alloc o).drew).grownBy w2 (Value.slice (some ⟨g, 0, none⟩) (t + 1) cap).ownBlock) (hat : (Value.slice (some ⟨g, 0, none⟩) (t + 1) cap).ownBlock = some g2 ∨ g2 = wr.heap.size + 1)
    (hu : u = ((lo * 256 % 4294967296 : Nat) : Int)) (hv : v = ((s * 256 : Nat) : Int)) :
    EncRaw (((w2.setCell ⟨a, 0, none⟩ (.slice (some ⟨g2, 0, none⟩) (t + 1 + 1) cap2)).setCell ⟨a, 1, none⟩ (.int .u32 u)).setCell ⟨a, 2, none⟩ (.int .u32 v)) (Step.paint O wr c) c a ⟨lo * 256, s * 256, t + 1⟩ ∧
    Step [c] wr O (((w2.setCell ⟨a, 0, none⟩ (.slice (some ⟨g2, 0, none⟩) (t + 1 + 1) cap2)).setCell ⟨a, 1, none⟩ (.int .u32 u)).setCell ⟨a, 2, none⟩ (.int .u32 v)) (Step.paint O wr c) := by
  subst hu hv
  have hne : g ≠ a := hr.ne hb.1 (by decide)
  have hlt := hb.lt
  have hgl := hr.lt (k := g) rfl
  have hgw : (wr.alloc o).grownBy w2 (some g) := ⟨hg.os, hg.tape, hg.output, hg.size, hg.block⟩
  have s0 : Step [c] wr O w2 (Step.paint O wr c) := (((Step.refl [c] wr O).alloc o).grown hgw (fun k hk => .inl (by simp at hk; subst hk; simp [hr.paint g rfl]))).repaint c
  have hba : w2.heap[a]? = wr.heap[a]? := by
    rw [hgw.block a (by rw [World.size_alloc]; omega) (fun e1 => hne (by simpa using e1.symm)), Below.heap_alloc wr o a hlt]
  have hb2 : Blk w2 (Step.paint O wr c) c a (.cells #[.slice (some ⟨g, 0, none⟩) (t + 1) cap, .int .u32 ((lo % 4294967296 : Nat) : Int), .int .u32 (s : Int)] 103 (0, 0)) := ⟨hba.trans hb.1, by rw [Step.paint_old hlt]; exact hb.2⟩
  have hr2 : Held w2 (Step.paint O wr c) c 5 (.slice (some ⟨g2, 0, none⟩) (t + 1 + 1) cap2) ((0 :: be (t + 1) (lo * 256 / 4294967296)).map byte) := by
    rw [turn_bytes] at ho
    refine hr.moved ?_ ?_
    · simpa [be_length] using ho
    · rcases hat with e1 | e1
      · exact .inl e1.symm
      · exact .inr fun k hk => by simp [Value.ownBlock] at hk; omega
  have hne2 : g2 ≠ a := hr2.ne hb2.1 (by decide)
  have hn2 : (Value.slice (some ⟨g2, 0, none⟩) (t + 1 + 1) cap2).ownBlock ≠ some a := by simp [Value.ownBlock]; exact hne2
  refine ⟨⟨g2, cap2, ?_, ?_⟩, ?_⟩
  · simpa using ((hb2.setCell 0 (.slice (some ⟨g2, 0, none⟩) (t + 1 + 1) cap2)).setCell 1 (.int .u32 ((lo * 256 % 4294967296 : Nat) : Int))).setCell 2 (.int .u32 ((s * 256 : Nat) : Int))
  · exact ((hr2.setCell_other (p := ⟨a, 0, none⟩) hn2 _).setCell_other (p := ⟨a, 1, none⟩) hn2 _).setCell_other (p := ⟨a, 2, none⟩) hn2 _
  · have hc : O a ∈ [c] := by simp [hb.2]
    exact ((s0.setCell (p := ⟨a, 0, none⟩) (.inl hc) _).setCell (p := ⟨a, 1, none⟩) (.inl hc) _).setCell (p := ⟨a, 2, none⟩) (.inl hc) _
theorem after8 {wr w2 : World} {O : Paint} {c a g n cap : Nat} {ds : Array Value} {xs : List Value} {o : Obj} (hb : Blk wr O c a (.cells ds 103 (0, 0))) (hr : Held wr O c 5 (.slice (some ⟨g, 0, none⟩) n cap) xs)
    (hg : ((wr.alloc o).drew).grownBy w2 (Value.slice (some ⟨g, 0, none⟩) n cap).ownBlock) : w2.heap[a]? = some (.cells ds 103 (0, 0)) := by
  have hne : g ≠ a := hr.ne hb.1 (by decide)
  have hgw : (wr.alloc o).grownBy w2 (some g) := ⟨hg.os, hg.tape, hg.output, hg.size, hg.block⟩
  have hlt := hb.lt
  rw [hgw.block a (by rw [World.size_alloc]; omega) (fun e1 => hne (by simpa using e1.symm)), Below.heap_alloc wr o a hlt]
  exact hb.1
theorem one8 (x : Int) : ∀ u ∈ [Value.int .u8 x], u.oneCell' = true := by intro u hu; simp at hu; subst hu; rfl
set_option maxRecDepth 100000 in
set_option maxHeartbeats 400000 in
theorem turn_any {w : World} {O : Paint} {c a : Nat} {e : Enc} (h : EncRaw w O c a e) (hr : Raw e) (ht : e.turns ≤ 1000000) :
    Calls Try.prog 103 #[.pointer (some ⟨a, 0, none⟩)] w fun x w' => x = .returned (.tuple #[]) ∧ ∃ O', Step [c] w O w' O' ∧ EncRaw w' O' c a (widen e) := by
  obtain ⟨i0, hi, hz0, hz1, hz2⟩ := info_parts info8
  have H0 : Turning w O c a e 3 w := ⟨e, O, by omega, rfl, hr, by have := hr.1; omega, by omega, h, Step.refl _ _ _⟩
  have HH := Lib.hid H0
  clear H0 h hr
  go_enter Try.func103, Try.ntmps103
  go_wp2
  go_loopg [6] 3 (fun r _ wr => Turning w O c a e r wr)
  case atStart => exact HH.out
  case round =>
    clear HH
    obtain ⟨⟨lo, s, t⟩, O1, hr3, ht1, hr1, hs1, htu, ⟨g, cap, hb, hh⟩, hst⟩ := hrel
    have hz : s < 4294967296 := hr1.2.1
    have hz' : 1 ≤ s := hr1.1
    simp only at htu hs1 hb hh
    obtain ⟨h0, h1, h2, f0, f1, f2⟩ := three hb.1
    have hblt := hb.lt
    have hne : g ≠ a := hh.ne hb.1 (by decide)
    have HB := Lib.hid hb
    have HHe := Lib.hid hh
    have HS1 := Lib.hid hs1
    have HR1 := Lib.hid hr1
    have HTU := Lib.hid htu
    have HR3 := Lib.hid hr3
    have HST := Lib.hid hst
    clear hs1 hr1 htu hr3 hb hh hst
    by_cases hlo : s < 16777216
    · have hd : decide ((s : Int) < 16777216) = true := by rw [decide_eq_true_iff]; omega
      have hgk : gk ≠ 0 := by
        rintro rfl
        have := HS1.out
        simp at this; omega
      obtain ⟨r, rfl⟩ : ∃ r, gk = r + 1 := ⟨gk - 1, by omega⟩
      have htn : turnN r ⟨lo * 256, s * 256, t + 1⟩ = widen e := by
        rw [← ht1, turnN, turn_lo _ _ _ hlo]
      have HTN := Lib.hid htn
      have HLO := Lib.hid hlo
      have htl : t + 5 ≤ 2000000 := by have := HTU.out; omega
      have hb1 : t + 1 + 1 ≤ maxLen := by unfold maxLen; omega
      have hb2 : (t + 1 + 1) * 1 ≤ 140737488355328 := by omega
      clear ht1 htn hgk
      have HOWN := Lib.hid (fun o => ((show wr.ownsRow 0 5 1 (.slice (some ⟨g, 0, none⟩) (t + 1) cap) (t + 1) ((0 :: be t (lo / 4294967296)).map byte) by have h9 := HHe.out.row; simpa [be_length] using h9).alloc o).drew)
      have hL : lo % 4294967296 < 4294967296 := by omega
      have HW8 := Lib.hid (show IntKind.u8.wrap (((lo % 4294967296 : Nat) : Int) / 16777216) = ((lo % 4294967296 / 16777216 % 256 : Nat) : Int) by rw [IntKind.wrap_u8]; omega)
      have HU := Lib.hid (show ((lo % 4294967296 : Nat) : Int) * 256 % 4294967296 = ((lo * 256 % 4294967296 : Nat) : Int) by omega)
      generalize hLL : lo % 4294967296 = L at h1 hL HW8 HU
      have HLL := Lib.hid hLL
      clear hLL
      go_wp2
      go_region_law ((refine step_append_lies _ rfl _ _ 101 rfl 0 5 i0 (.int .u8 0) 1 1 Try.underlying101 hi hz0 hz1 hz2 rfl (by decide) (.slice (some ⟨g, 0, none⟩) (t + 1) cap) (t + 1) ((0 :: be t (lo / 4294967296)).map byte) (by simp [Act.eval]) (HOWN.out _) ⟨wr.heap.size, 0, none⟩ 1 1 [.int .u8 (IntKind.u8.wrap ((L : Int) / 16777216))] (by simp [Act.eval]) rfl (cell_one_new _ _ _) (one8 _) (by decide) hb1 hb2 (Nat.zero_le _) (wr.heap.size + 1) (by simp) ?_); intro g2 cap2 w2 hown2 hgr2 hat2 hlt2; have hcc := after8 HB.out HHe.out hgr2; rw [HLL.out] at hcc; obtain ⟨k0, k1, k2, l0, l1, l2⟩ := three hcc; have hlt3 := lt_of_heap hcc; have HO := Lib.hid hown2; have HGR := Lib.hid hgr2; have HAT := Lib.hid hat2; clear hown2 hgr2 hat2 hcc)
      all_goals
        have HOO : Hid (w2.ownsRow 0 5 1 (.slice (some ⟨g2, 0, none⟩) (t + 1 + 1) cap2) (t + 1 + 1) ((0 :: be t (lo / 4294967296)).map byte ++ [.int .u8 ((lo % 4294967296 / 16777216 % 256 : Nat) : Int)])) := Lib.hid (by rw [HLL.out, ← HW8.out]; exact HO.out)
        have HTT := Lib.hid (turned HB.out HHe.out HOO.out HGR.out HAT.out HU.out (v := (s : Int) * 256) (by omega))
        clear HOO HO HGR HAT
        go_wp2
        go_roundg r
        case measure => omega
        case rel =>
          obtain ⟨t1, t2⟩ := HTT.out
          have hraw := turn_raw HR1.out
          rw [turn_lo _ _ _ HLO.out] at hraw
          refine ⟨⟨lo * 256, s * 256, t + 1⟩, _, by have := HR3.out; omega, HTN.out, hraw, ?_, ?_, t1, HST.out.trans t2⟩
          · show 16777216 ≤ s * 256 * 256 ^ r
            rw [Nat.mul_assoc, Nat.mul_comm 256, ← Nat.pow_succ]; exact HS1.out
          · show t + 1 ≤ e.turns + 3 - r
            have := HTU.out
            have := HR3.out
            omega
    · have hd : decide ((s : Int) < 16777216) = false := by rw [decide_eq_false_iff_not]; omega
      have hk := turnN_keep gk (e := ⟨lo, s, t⟩) (by simp only; omega)
      rw [hk] at ht1
      have HT := Lib.hid ht1
      have HLO := Lib.hid hlo
      clear ht1 hk hlo hz hz'
      go_wp2
      first | go_end0 | (simp only [Exit.inBlock, Exit.then]; refine bodyPost_ret (results_none rfl _ _ _) rfl ?_) | refine bodyPost_ret (results_none rfl _ _ _) rfl ?_
      exact ⟨rfl, O1, HST.out, by rw [← HT.out]; exact ⟨g, cap, HB.out, HHe.out⟩⟩
end Go.Proofs.Ytakbocaemlgbaaa.Rc
