/-
  Package window: the contract of Copy, and of the first lines of the statements of layer 2 (a copy of itself).
-/
import Derived.Test.YthejbnodalnnpaaWinWalks
import Derived.Deep.RegionLaw
import Derived.Deep.AppendLies
import Derived.BigRegion
import Derived.IntWalk
namespace Go.Proofs.Ythejbnodalnnpaa.Wnd
open Go.RowKit

/-- What n bytes, copied from d back, make of l. -/
def copied (l : List UInt8) (d : Nat) : Nat → List UInt8
  | 0 => l
  | n + 1 => copied l d n ++ [(copied l d n).getD ((copied l d n).length - d) 0]
theorem copied_length (l : List UInt8) (d n : Nat) : (copied l d n).length = l.length + n := by
  induction n with
  | zero => rfl
  | succ n ih => simp [copied, ih]; omega
theorem Grew.refl {w : World} {b most : Nat} {v : Value} {l : List UInt8} (h : Win w b v most l) : Grew w b most v l w := ⟨v, h, Frame.refl _ _, .inl rfl⟩
theorem Grew.trans {w w1 w2 : World} {b most : Nat} {v v1 : Value} {l2 : List UInt8} (hF : Frame (Owns b v) w w1) (hM : Moved w v v1) (h : Grew w1 b most v1 l2 w2) : Grew w b most v l2 w2 := by
  obtain ⟨v2, hw, hF2, hM2⟩ := h
  refine ⟨v2, hw, hF.trans hF2 (fun k hk ho => ?_), ?_⟩
  · rcases ho with rfl | ho
    · exact .inl rfl
    · rcases hM with e | e
      · exact .inr (by rw [← e]; exact ho)
      · have := e k ho; omega
  · rcases hM2 with e | e
    · rcases hM with e' | e'
      · exact .inl (e.trans e')
      · exact .inr fun k hk => e' k (by rw [← e]; exact hk)
    · exact .inr fun k hk => Nat.le_trans hF.size (e k hk)
theorem Grew.of_drewN {w w2 : World} {n : Nat} {b most : Nat} {v : Value} {l2 : List UInt8} (h : Grew (w.drewN n) b most v l2 w2) : Grew w b most v l2 w2 := by
  obtain ⟨v2, hw, hF2, hM2⟩ := h
  exact ⟨v2, hw, hF2.from_drewN, hM2⟩
theorem grew_at {w w2 : World} {b g N cap g2 cap2 most : Nat} {l : List UInt8} {x : UInt8} {o : Obj} (h : Win w b (.slice (some ⟨g, 0, none⟩) N cap) most l) (hN : l.length = N)
    (ho : w2.ownsRow 0 5 1 (.slice (some ⟨g2, 0, none⟩) (N + 1) cap2) (N + 1) (l.map byte ++ [.int .u8 (x.toNat : Int)])) (hg : (w.alloc o).drew.grownBy w2 (Value.slice (some ⟨g, 0, none⟩) N cap).ownBlock)
    (ha : (Value.slice (some ⟨g, 0, none⟩) N cap).ownBlock = some g2 ∨ g2 = w.heap.size + 1) :
    Grew w b most (.slice (some ⟨g, 0, none⟩) N cap) (l ++ [x]) (w2.setCell ⟨b, 0, none⟩ (.slice (some ⟨g2, 0, none⟩) (N + 1) cap2)) := by
  refine grew_of (o := o) h (Frame.refl _ _) rfl (by rw [hN]; exact ho) ⟨hg.os, hg.tape, hg.output, hg.size, hg.block⟩ ?_
  rcases ha with e | e
  · exact .inl e.symm
  · refine .inr fun k hk => ?_
    simp only [Value.ownBlock, Option.some.injEq] at hk
    rw [World.size_alloc]; omega
set_option maxHeartbeats 1000000 in
theorem copy_yes {w : World} {b : Nat} {v : Value} {most : Nat} {l : List UInt8} (h : Win w b v most l) (d n : Nat) (h1 : 1 ≤ d) (h2 : d ≤ l.length) (h3 : l.length + n ≤ most) (hm : most ≤ 9223372036854775807) (hs : l.length + n ≤ 1099511627776) :
    Calls Try.prog 95 #[.pointer (some ⟨b, 0, none⟩), .int .i64 (d : Int), .int .i64 (n : Int)] w fun e w' => e = .returned (.bool true) ∧ Grew w b most v (copied l d n) w' := by
  have hr := reaches_any h d
  rw [show there d l.length = true from by simp [there]; omega] at hr
  have hro := room_any h (by omega) hm
  have HR := Lib.hid hr
  have HRO := Lib.hid hro
  have HW := Lib.hid h
  have hcmp : decide ((most : Int) - (l.length : Int) < (n : Int)) = false := by simp; omega
  have hn0 : decide ((n : Int) < 0) = false := by simp
  clear hr hro h
  obtain ⟨i0, hi, hz0, hz1, hz2⟩ := info_parts info8
  go_enter Try.func95, Try.ntmps95
  go_wp2_with fail
  refine HR.out.mono ?_
  rintro e w1 ⟨rfl, rfl⟩
  go_wp2_with fail
  refine HRO.out.mono ?_
  rintro e w1 ⟨rfl, q, hq⟩
  have HG := Lib.hid (show Grew w b most v (copied l d 0) w1 from by rw [hq]; exact ⟨v, HW.out, Frame.of_drewN q, .inl rfl⟩)
  clear hq
  go_wp2_with fail
  go_loopw [22] (fun i wr => ∃ k : Nat, k ≤ n ∧ i = .int .i64 k ∧ Grew w b most v (copied l d k) wr) (fun i _ => n - (intOf i).toNat)
  case atStart => exact ⟨0, by omega, rfl, HG.out⟩
  case round =>
    obtain ⟨k, hk, rfl, hgrew⟩ := hrel
    by_cases hlt : k < n
    · obtain ⟨v1, hw1, hF1, hM1⟩ := hgrew
      have hL := copied_length l d k
      have hstep : copied l d (k + 1) = copied l d k ++ [(copied l d k).getD ((copied l d k).length - d) 0] := rfl
      have HS := Lib.hid hstep
      clear hstep
      rcases hw1.form with ⟨_, he⟩ | ⟨g, cap, rfl, hcap, hml, hcells⟩
      · rw [he] at hL; simp at hL; omega
      · have hcy := hcells ((copied l d k).length - d) (by omega)
        have hgy : (copied l d k).getD ((copied l d k).length - d) 0 = (copied l d k)[(copied l d k).length - d]'(by omega) := by simp [List.getD, show (copied l d k).length - d < (copied l d k).length from by omega]
        rw [hgy] at HS
        generalize (copied l d k)[(copied l d k).length - d]'(by omega) = y at *
        generalize copied l d k = lk at *
        have hc0 := hw1.cell0
        have hf0 := hw1.free 0
        have hblt := hw1.lt
        have HW1 := Lib.hid hw1
        have HF1 := Lib.hid hF1
        have HM1 := Lib.hid hM1
        have hb1 : lk.length + 1 ≤ maxLen := by unfold maxLen; omega
        have hb2 : (lk.length + 1) * 1 ≤ 140737488355328 := by omega
        have hdl : d ≤ lk.length := by omega
        have hll : lk.length ≤ 1099511627776 := by omega
        unfold maxLen at hml
        unfold byte at hcy
        clear hw1 hF1 hM1 hcells hgy hL
        have hown := HW1.out.2.1
        generalize hN : lk.length = N at *
        have HN := Lib.hid hN
        have HOWN := Lib.hid (fun o => (hown.alloc o).drew)
        clear hN hown
        have e1 : (0 : Int) ≤ (N : Int) - (d : Int) := by omega
        have e2 : (N : Int) - (d : Int) < (N : Int) := by omega
        have e3 : ((N : Int) - (d : Int)).toNat = N - d := by omega
        have e4 : IntKind.i64.wrap ((N : Int) - (d : Int)) = (N : Int) - (d : Int) := IntWalk.i64_in _ (by omega)
        go_wp2
        go_region_law ((refine step_append_lies _ rfl _ _ 26 rfl 0 5 i0 (.int .u8 0) 1 1 Try.underlying26 hi hz0 hz1 hz2 rfl (by decide) (.slice (some ⟨g, 0, none⟩) N cap) N (lk.map byte) (by simp [Act.eval]) (HOWN.out _) ⟨wr.heap.size, 0, none⟩ 1 1 [.int .u8 (y.toNat : Int)] (by simp [Act.eval]) rfl (cell_one_new _ _ _) (one_cell y) (by decide) hb1 hb2 (Nat.zero_le _) (wr.heap.size + 1) (by simp) ?_); intro g2 cap2 w2 hown2 hgr2 hat2 hlt2; obtain ⟨hc2, hf2, hs2⟩ := after_append HW1.out ⟨hgr2.os, hgr2.tape, hgr2.output, hgr2.size, hgr2.block⟩; have HO := Lib.hid hown2; have HGR := Lib.hid hgr2; have HAT := Lib.hid hat2; clear hown2 hgr2 hat2)
        all_goals
          clear e1 e2 e3 e4
          have HGW := Lib.hid (show Grew w b most v (copied l d (k + 1)) (w2.setCell ⟨b, 0, none⟩ (.slice (some ⟨g2, 0, none⟩) (N + 1) cap2)) from by
            rw [HS.out]
            exact Grew.trans HF1.out HM1.out (grew_at HW1.out HN.out HO.out HGR.out HAT.out))
          go_wp2
          go_roundw
          case rel => exact ⟨k + 1, by omega, by go_num, HGW.out⟩
          case measure => simp [intOf]; omega
    · go_wp2
      go_ret
      exact ⟨rfl, by rw [show n = k from by omega]; exact hgrew⟩
theorem copy_far {w : World} {b : Nat} {v : Value} {most : Nat} {l : List UInt8} (h : Win w b v most l) (d n : Int) (hn : there d l.length = false) :
    Calls Try.prog 95 #[.pointer (some ⟨b, 0, none⟩), .int .i64 d, .int .i64 n] w fun e w' => e = .returned (.bool false) ∧ ∃ q, w' = w.drewN q := by
  have hr := reaches_any h d
  rw [hn] at hr
  have HR := Lib.hid hr
  clear hr h hn
  go_enter Try.func95, Try.ntmps95
  go_wp2_with fail
  refine HR.out.mono ?_
  rintro e w1 ⟨rfl, rfl⟩
  go_wp2
  go_ret
  exact ⟨rfl, 0, rfl⟩
theorem copy_neg {w : World} {b : Nat} {v : Value} {most : Nat} {l : List UInt8} (h : Win w b v most l) (d n : Int) (hn : there d l.length = true) (h0 : n < 0) :
    Calls Try.prog 95 #[.pointer (some ⟨b, 0, none⟩), .int .i64 d, .int .i64 n] w fun e w' => e = .returned (.bool false) ∧ ∃ q, w' = w.drewN q := by
  have hr := reaches_any h d
  rw [hn] at hr
  have HR := Lib.hid hr
  have hd : decide (n < 0) = true := by simpa using h0
  clear hr h hn
  go_enter Try.func95, Try.ntmps95
  go_wp2_with fail
  refine HR.out.mono ?_
  rintro e w1 ⟨rfl, rfl⟩
  go_wp2
  go_ret
  exact ⟨rfl, 0, rfl⟩
theorem copy_over {w : World} {b : Nat} {v : Value} {most : Nat} {l : List UInt8} (h : Win w b v most l) (d n : Int) (hn : there d l.length = true) (h0 : 0 ≤ n) (hl : l.length ≤ most) (hm : most ≤ 9223372036854775807) (h1 : (most : Int) - l.length < n) :
    Calls Try.prog 95 #[.pointer (some ⟨b, 0, none⟩), .int .i64 d, .int .i64 n] w fun e w' => e = .returned (.bool false) ∧ ∃ q, w' = w.drewN q := by
  have hr := reaches_any h d
  rw [hn] at hr
  have hro := room_any h hl hm
  have HR := Lib.hid hr
  have HRO := Lib.hid hro
  have hd : decide (n < 0) = false := by simpa using h0
  have hd1 : decide ((most : Int) - (l.length : Int) < n) = true := by simpa using h1
  clear hr hro h hn
  go_enter Try.func95, Try.ntmps95
  go_wp2_with fail
  refine HR.out.mono ?_
  rintro e w1 ⟨rfl, rfl⟩
  go_wp2_with fail
  refine HRO.out.mono ?_
  rintro e w1 ⟨rfl, q, hq⟩
  have HQ := Lib.hid hq
  clear hq
  go_wp2
  go_ret
  exact ⟨rfl, q, HQ.out⟩
end Go.Proofs.Ythejbnodalnnpaa.Wnd
