/-
  Package window: what a window is in memory ('Win'), and contracts of New, Len, Text, reaches, room, At, Put.
  Package window: the contract of Copy, and of the first lines of the statements of layer 2 (a copy of itself).
  The first lines of the statements of layer 2 (a window of nine bytes that copies itself): they answer true, and write nothing that was there.
-/
import Derived.Test.YtfpoabeihpfeiaaGreatPk01
import Derived.Test.YtfpoabeihpfeiaaGreatRows
import Derived.WalkSpells
import Derived.WalkLawsBesides
import Derived.ProofKit
import Derived.Outline
import Derived.Laws.IdiomStrings
import Derived.Laws.BytesArg
import Derived.Deep.QuietTactic
import Derived.BigQuiet
import Derived.RegionTactic
import Derived.Lib.Hide
import Derived.Deep.RegionLaw
import Derived.Deep.AppendLies
import Derived.BigRegion
import Derived.IntWalk
set_option maxRecDepth 100000
set_option maxHeartbeats 16000000
set_option linter.unusedVariables false
set_option linter.unusedSimpArgs false
open Go.Lib (hid)
section
namespace Go.Proofs.YtfpoabeihpfeiaaGreat.Wnd
open Go.RowKit
def byte (x : UInt8) : Value := .int .u8 x.toNat
def Win (w : World) (b : Nat) (v : Value) (most : Nat) (l : List UInt8) : Prop :=
 w.heap[b]? = some (.cells #[v, .int .i64 most] 131 (0, 0)) /\ w.ownsRow 0 5 1 v l.length (l.map byte) /\ v.ownBlock ≠ some b
def Owns (b : Nat) (v : Value) (k : Nat) : Prop := k = b \/ v.ownBlock = some k
theorem Win.cell0 {w : World} {b : Nat} {v : Value} {most : Nat} {l : List UInt8} (h : Win w b v most l) : w.cell? ⟨b, 0, none⟩ = some v := by simp [World.cell?, h.1]
theorem Win.cell1 {w : World} {b : Nat} {v : Value} {most : Nat} {l : List UInt8} (h : Win w b v most l) : w.cell? ⟨b, 1, none⟩ = some (.int .i64 most) := by simp [World.cell?, h.1]
theorem Win.free {w : World} {b : Nat} {v : Value} {most : Nat} {l : List UInt8} (h : Win w b v most l) (o : Nat) : w.frozen? ⟨b, o, none⟩ = false := by simp [World.frozen?, h.1]
theorem Win.lt {w : World} {b : Nat} {v : Value} {most : Nat} {l : List UInt8} (h : Win w b v most l) : b < w.heap.size := lt_of_heap h.1
theorem Win.frame {own : Nat -> Prop} {w w' : World} {b : Nat} {v : Value} {most : Nat} {l : List UInt8} (h : Win w b v most l) (hf : Frame own w w') (hn : ∀ k, Owns b v k -> ¬ own k) : Win w' b v most l :=
 ⟨(hf.block b h.lt (hn b (.inl rfl))).trans h.1, ownsRow_frame h.2.1 hf (fun k hk => hn k (.inr hk)), h.2.2⟩
theorem Win.drewN {w : World} {b : Nat} {v : Value} {most : Nat} {l : List UInt8} (h : Win w b v most l) (n : Nat) : Win (w.drewN n) b v most l := h
theorem Win.form {w : World} {b : Nat} {v : Value} {most : Nat} {l : List UInt8} (h : Win w b v most l) :
  (v = .slice none 0 0 /\ l = []) \/ ∃ g cap, v = .slice (some ⟨g, 0, none⟩) l.length cap /\ l.length <= cap /\ cap <= maxLen /\ ∀ j (hj : j < l.length), w.cell? ⟨g, j, none⟩ = some (byte l[j]) := by
 rcases h.2.1.2 with ⟨h1, h2⟩ | ⟨g, cap, cur, rfl, _, hg, hnc, hcm, hcs, htake⟩
 · exact .inl ⟨h1, List.eq_nil_of_length_eq_zero h2⟩
 · refine .inr ⟨g, cap, rfl, hnc, hcm, fun j hj => ?_⟩
   rw [World.ownsRow.cellAt h.2.1 j (by omega)]
   simp [hj]
theorem Win.text {w : World} {b : Nat} {v : Value} {most : Nat} {l : List UInt8} (h : Win w b v most l) : (convert 43 9 v).run Tryz.prog w = .ok (.string ⟨l.toArray⟩) w := by
 rcases h.form with ⟨rfl, rfl⟩ | ⟨g, cap, rfl, _, _, hc⟩
 · exact run_convert_bytes_nil w 43 5 Tryz.underlying43 Tryz.underlying5 0 0 9 Tryz.underlying9
 · exact run_convert_bytes_back w 43 9 5 ⟨g, 0, none⟩ cap l Tryz.underlying43 Tryz.underlying5 Tryz.underlying9 (fun j hj => by
    have hplain : (⟨g, 0, none⟩ : Addr).add j = ⟨g, j, none⟩ := by unfold Addr.add; split <;> simp_all
    rw [hplain]; exact hc j hj)
theorem len_any {w : World} {b : Nat} {v : Value} {most : Nat} {l : List UInt8} (h : Win w b v most l) :
  Calls Tryz.prog 71 #[.pointer (some ⟨b, 0, none⟩)] w fun e w' => e = .returned (.int .i64 l.length) /\ w = w' := by
 have h0 := h.cell0
 rcases h.form with ⟨rfl, rfl⟩ | ⟨g, cap, rfl, _, _, _⟩
 all_goals
  clear h
  go_enter Tryz.func71, Tryz.ntmps71
  go_wp2
  go_ret
  exact ⟨rfl, rfl⟩
theorem text_any {w : World} {b : Nat} {v : Value} {most : Nat} {l : List UInt8} (h : Win w b v most l) :
  Calls Tryz.prog 44 #[.pointer (some ⟨b, 0, none⟩)] w fun e w' => e = .returned (.string ⟨l.toArray⟩) /\ w = w' := by
 have h0 := h.cell0
 have ht := h.text
 clear h
 go_enter Tryz.func44, Tryz.ntmps44
 go_wp2
 go_ret
 exact ⟨rfl, rfl⟩
theorem ret_bool {a b : Bool} (h : a = b) : Ending.returned (.bool a) = .returned (.bool b) := by rw [h]
theorem ret_int {k : IntKind} {a b : Int} (h : a = b) : Ending.returned (.int k a) = .returned (.int k b) := by rw [h]
def there (d : Int) (n : Nat) : Bool := decide (1 <= d) && decide (d <= n)
theorem reaches_any {w : World} {b : Nat} {v : Value} {most : Nat} {l : List UInt8} (h : Win w b v most l) (d : Int) :
  Calls Tryz.prog 92 #[.pointer (some ⟨b, 0, none⟩), .int .i64 d] w fun e w' => e = .returned (.bool (there d l.length)) /\ w = w' := by
 by_cases hd : 1 <= d
 · have HH := hid h
   clear h
   go_enter Tryz.func92, Tryz.ntmps92
   go_wp2_with fail
   refine (len_any HH.out).mono ?_
   rintro e w' ⟨rfl, rfl⟩
   go_wp2
   go_ret
   exact ⟨ret_bool (by simp [there, hd]), rfl⟩
 · have hd' : decide (1 <= d) = false := by simpa using hd
   clear h
   go_enter Tryz.func92, Tryz.ntmps92
   go_wp2_with fail
   go_ret
   exact ⟨ret_bool (by simp [there, hd']), rfl⟩
theorem room_any {w : World} {b : Nat} {v : Value} {most : Nat} {l : List UInt8} (h : Win w b v most l) (hl : l.length <= most) (hm : most <= 9223372036854775807) :
  Calls Tryz.prog 91 #[.pointer (some ⟨b, 0, none⟩)] w fun e w' => e = .returned (.int .i64 ((most : Int) - (l.length : Int))) /\ ∃ n, w' = w.drewN n := by
 have h0 := h.cell0
 have h1 := h.cell1
 rcases h.form with ⟨rfl, rfl⟩ | ⟨g, cap, rfl, _, _, _⟩
 all_goals
  clear h
  go_enter Tryz.func91, Tryz.ntmps91
  go_wp2
  go_quiet (fail)
  go_wp2
  go_ret
  exact ⟨rfl, _, rfl⟩
theorem at_yes {w : World} {b : Nat} {v : Value} {most : Nat} {l : List UInt8} (h : Win w b v most l) (d : Int) (h1 : 1 <= d) (h2 : d <= l.length) (hl : l.length <= 1099511627776) (x : UInt8) (hx : l[l.length - d.toNat]? = some x) :
  Calls Tryz.prog 86 #[.pointer (some ⟨b, 0, none⟩), .int .i64 d] w fun e w' => e = .returned (.tuple #[byte x, .bool true]) /\ ∃ n, w' = w.drewN n := by
 have h0 := h.cell0
 have hr := reaches_any h d
 rw [show there d l.length = true from by simp [there, h1, h2]] at hr
 rcases h.form with ⟨rfl, rfl⟩ | ⟨g, cap, rfl, hcap, hml, hc⟩
 · simp at h2; omega
 · obtain ⟨k, rfl⟩ := Int.eq_ofNat_of_zero_le (show 0 <= d by omega)
   obtain ⟨hlt, hxe⟩ := List.getElem?_eq_some_iff.1 hx
   have hcell := hc _ hlt
   rw [hxe] at hcell
   simp only [Int.toNat_natCast] at hcell
   unfold byte at hcell
   have hk1 : 1 <= k := by omega
   have hk2 : k <= l.length := by omega
   have HR := hid hr
   clear hr h hc hxe hx hlt h1 h2
   unfold maxLen at hml
   generalize l.length = n at *
   go_enter Tryz.func86, Tryz.ntmps86
   go_wp2_with fail
   refine HR.out.mono ?_
   rintro e w' ⟨rfl, rfl⟩
   go_wp2
   go_quiet (fail)
   go_wp2
   go_ret2
   exact ⟨rfl, _, rfl⟩
theorem at_no {w : World} {b : Nat} {v : Value} {most : Nat} {l : List UInt8} (h : Win w b v most l) (d : Int) (hn : there d l.length = false) :
  Calls Tryz.prog 86 #[.pointer (some ⟨b, 0, none⟩), .int .i64 d] w fun e w' => e = .returned (.tuple #[.int .u8 0, .bool false]) /\ w = w' := by
 have hr := reaches_any h d
 rw [hn] at hr
 have HR := hid hr
 clear hr h hn
 go_enter Tryz.func86, Tryz.ntmps86
 go_wp2_with fail
 refine HR.out.mono ?_
 rintro e w' ⟨rfl, rfl⟩
 go_wp2
 go_ret2
 exact ⟨rfl, rfl⟩
theorem new_any (m : Int) (w : World) :
  Calls Tryz.prog 51 #[.int .i64 m] w fun e w' => e = .returned (.pointer (some ⟨w.heap.size, 0, none⟩)) /\ w' = w.alloc (.cells #[.slice none 0 0, .int .i64 m.toNat] 131) := by
 by_cases hm : 0 <= m
 · obtain ⟨k, rfl⟩ := Int.eq_ofNat_of_zero_le hm
   go_enter Tryz.func51, Tryz.ntmps51
   go_wp2
   go_ret
   exact ⟨rfl, rfl⟩
 · have h0 : m.toNat = 0 := by omega
   rw [h0]
   go_enter Tryz.func51, Tryz.ntmps51
   go_wp2
   go_ret
   exact ⟨rfl, rfl⟩
theorem win_new (w : World) (most : Nat) : Win (w.alloc (.cells #[.slice none 0 0, .int .i64 most] 131)) w.heap.size (.slice none 0 0) most [] :=
 ⟨heap_alloc_new w _, World.ownsRow_nil _ _ _ _, by simp [Value.ownBlock]⟩
theorem info8 : (Tryz.prog.info? 5).map (fun i => (i.zero, i.size, i.bytes)) = some (some (.int .u8 0), 1, 1) := by kernel_rfl
theorem one_cell (x : UInt8) : ∀ u ∈ [Value.int .u8 x.toNat], u.oneCell' = true := by intro u hu; simp at hu; subst hu; rfl
def Grew (w : World) (b most : Nat) (v : Value) (l' : List UInt8) (w' : World) : Prop := ∃ v', Win w' b v' most l' /\ Frame (Owns b v) w w' /\ Moved w v v'
theorem after_append {w w2 : World} {b : Nat} {v : Value} {most : Nat} {l : List UInt8} {o : Obj} (h : Win w b v most l) (hg : (w.alloc o).grownBy w2 v.ownBlock) :
  w2.cell? ⟨b, 0, none⟩ = some v /\ w2.frozen? ⟨b, 0, none⟩ = false /\ b < w2.heap.size := by
 have hb := hg.block b (by have := h.lt; simp; omega) (fun e => h.2.2 e.symm)
 rw [Below.heap_alloc w o b h.lt] at hb
 exact ⟨by simp [World.cell?, hb, h.1], by simp [World.frozen?, hb, h.1], by have h1 := hg.size; have h2 := h.lt; rw [World.size_alloc] at h1; omega⟩
theorem grew_of {w w1 w2 : World} {b : Nat} {v v' : Value} {most : Nat} {l : List UInt8} {x : UInt8} {o : Obj} (h : Win w1 b v most l) (hF : Frame (Owns b v) w w1) (hsz : w1.heap.size = w.heap.size)
  (ho : w2.ownsRow 0 5 1 v' (l.length + 1) (l.map byte ++ [byte x])) (hg : (w1.alloc o).grownBy w2 v.ownBlock) (hm : Moved (w1.alloc o) v v') :
  Grew w b most v (l ++ [x]) (w2.setCell ⟨b, 0, none⟩ v') := by
 have hlt := h.lt
 have hb := hg.block b (by rw [World.size_alloc]; omega) (fun e => h.2.2 e.symm)
 rw [Below.heap_alloc w1 o b hlt, h.1] at hb
 have hne : v'.ownBlock ≠ some b := by
  rcases hm with e | e
  · rw [e]; exact h.2.2
  · intro e2
    have := e b e2
    rw [World.size_alloc] at this; omega
 refine ⟨v', ⟨?_, ?_, hne⟩, ?_, ?_⟩
 · rw [heap_setCell_same w2 b 0 _ _ v' hb]; rfl
 · have := ownsRow_frame ho ((Frame.refl (fun k => k = b) w2).setCell (p := ⟨b, 0, none⟩) (.inl rfl) v') (fun k hk e => hne (by rw [hk, e]))
   simpa using this
 · exact ((hF.alloc o).grown hg (fun k hk => .inl (.inr hk))).setCell (.inl (.inl rfl)) _
 · rcases hm with e | e
   · exact .inl e
   · exact .inr fun k hk => by have := e k hk; rw [World.size_alloc] at this; omega
theorem put_yes {w : World} {b : Nat} {v : Value} {most : Nat} {l : List UInt8} (h : Win w b v most l) (hl : l.length < most) (hm : most <= 9223372036854775807) (hs : l.length < 1099511627776) (x : UInt8) :
  Calls Tryz.prog 78 #[.pointer (some ⟨b, 0, none⟩), byte x] w fun e w' => e = .returned (.bool true) /\ Grew w b most v (l ++ [x]) w' := by
 have hr := room_any h (by omega) hm
 have hrm : ((most : Int) - (l.length : Int) < 1) = False := by simp; omega
 have HR := hid hr
 have HW := hid h
 clear hr h
 have hb1 : l.length + 1 <= maxLen := by unfold maxLen; omega
 have hb2 : (l.length + 1) * 1 <= 140737488355328 := by omega
 obtain ⟨i0, hi, hz0, hz1, hz2⟩ := info_parts info8
 unfold byte
 go_enter Tryz.func78, Tryz.ntmps78
 go_wp2_with fail
 refine HR.out.mono ?_
 rintro e w1 ⟨rfl, n, hn⟩
 have h : Win w1 b v most l := by rw [hn]; exact HW.out
 have HF := hid (show Frame (Owns b v) w w1 from by rw [hn]; exact Frame.of_drewN n)
 have hsz := hid (show w1.heap.size = w.heap.size from by rw [hn]; rfl)
 clear hn HR HW
 have h0 := h.cell0
 have hf := h.free 0
 have hlt := h.lt
 have HW := hid h
 clear h
 go_wp2_with (at_builtin; refine wpList_append_one _ rfl _ _ 43 rfl 5 i0 (.int .u8 0) 1 1 Tryz.underlying43 hi hz0 hz1 hz2 rfl (by decide) v _ _ rfl (HW.out.2.1.alloc _) ⟨w1.heap.size, 0, none⟩ 1 [.int .u8 x.toNat] rfl rfl (cell_one_new _ _ _) (one_cell x) hb1 hb2 ?_; intro g cap w2 hown2 hgr2 hmv2; obtain ⟨hc2, hf2, hz2⟩ := after_append HW.out hgr2; have HO := hid hown2; have HG := hid hgr2; have HM := hid hmv2; clear hown2 hgr2 hmv2)
 go_ret
 exact ⟨rfl, grew_of HW.out HF.out hsz.out HO.out HG.out HM.out⟩
theorem put_no {w : World} {b : Nat} {v : Value} {most : Nat} {l : List UInt8} (h : Win w b v most l) (hl : l.length = most) (hm : most <= 9223372036854775807) (x : Value) :
  Calls Tryz.prog 78 #[.pointer (some ⟨b, 0, none⟩), x] w fun e w' => e = .returned (.bool false) /\ ∃ n, w' = w.drewN n := by
 have hr := room_any h (by omega) hm
 rw [hl, Int.sub_self] at hr
 have HR := hid hr
 clear hr h hl
 go_enter Tryz.func78, Tryz.ntmps78
 go_wp2_with fail
 refine HR.out.mono ?_
 rintro e w1 ⟨rfl, n, hn⟩
 have HN := hid hn
 clear hn
 go_wp2
 go_ret
 exact ⟨rfl, n, HN.out⟩
end Go.Proofs.YtfpoabeihpfeiaaGreat.Wnd
end
section
namespace Go.Proofs.YtfpoabeihpfeiaaGreat.Wnd
open Go.RowKit
def copied (l : List UInt8) (d : Nat) : Nat -> List UInt8
 | 0 => l
 | n + 1 => copied l d n ++ [(copied l d n).getD ((copied l d n).length - d) 0]
theorem copied_length (l : List UInt8) (d n : Nat) : (copied l d n).length = l.length + n := by
 induction n with
 | zero => rfl
 | succ n ih => simp [copied, ih]; omega
theorem Grew.refl {w : World} {b most : Nat} {v : Value} {l : List UInt8} (h : Win w b v most l) : Grew w b most v l w := ⟨v, h, Frame.refl _ _, .inl rfl⟩
theorem Grew.trans {w w1 w2 : World} {b most : Nat} {v v1 : Value} {l2 : List UInt8} (hF : Frame (Owns b v) w w1) (hM : Moved w v v1) (h : Grew w1 b most v1 l2 w2) : Grew w b most v l2 w2 := by
 obtain ⟨v2, hw, hF2, hM2⟩ := h
 refine ⟨v2, hw, hF.trans hF2 (fun k hk ho => ?_), ?_⟩
 · rcases ho with rfl | ho
   · exact .inl rfl
   · rcases hM with e | e
     · exact .inr (by rw [<- e]; exact ho)
     · have := e k ho; omega
 · rcases hM2 with e | e
   · rcases hM with e' | e'
     · exact .inl (e.trans e')
     · exact .inr fun k hk => e' k (by rw [<- e]; exact hk)
   · exact .inr fun k hk => Nat.le_trans hF.size (e k hk)
theorem Grew.of_drewN {w w2 : World} {n : Nat} {b most : Nat} {v : Value} {l2 : List UInt8} (h : Grew (w.drewN n) b most v l2 w2) : Grew w b most v l2 w2 := by
 obtain ⟨v2, hw, hF2, hM2⟩ := h
 exact ⟨v2, hw, hF2.from_drewN, hM2⟩
theorem grew_at {w w2 : World} {b g N cap g2 cap2 most : Nat} {l : List UInt8} {x : UInt8} {o : Obj} (h : Win w b (.slice (some ⟨g, 0, none⟩) N cap) most l) (hN : l.length = N)
  (ho : w2.ownsRow 0 5 1 (.slice (some ⟨g2, 0, none⟩) (N + 1) cap2) (N + 1) (l.map byte ++ [.int .u8 x.toNat])) (hg : (w.alloc o).drew.grownBy w2 (Value.slice (some ⟨g, 0, none⟩) N cap).ownBlock)
  (ha : (Value.slice (some ⟨g, 0, none⟩) N cap).ownBlock = some g2 \/ g2 = w.heap.size + 1) :
  Grew w b most (.slice (some ⟨g, 0, none⟩) N cap) (l ++ [x]) (w2.setCell ⟨b, 0, none⟩ (.slice (some ⟨g2, 0, none⟩) (N + 1) cap2)) := by
 refine grew_of (o := o) h (Frame.refl _ _) rfl (by rw [hN]; exact ho) ⟨hg.os, hg.tape, hg.output, hg.size, hg.block⟩ ?_
 rcases ha with e | e
 · exact .inl e.symm
 · refine .inr fun k hk => ?_
   simp only [Value.ownBlock, Option.some.injEq] at hk
   rw [World.size_alloc]; omega
theorem copy_yes {w : World} {b : Nat} {v : Value} {most : Nat} {l : List UInt8} (h : Win w b v most l) (d n : Nat) (h1 : 1 <= d) (h2 : d <= l.length) (h3 : l.length + n <= most) (hm : most <= 9223372036854775807) (hs : l.length + n <= 1099511627776) :
  Calls Tryz.prog 79 #[.pointer (some ⟨b, 0, none⟩), .int .i64 d, .int .i64 n] w fun e w' => e = .returned (.bool true) /\ Grew w b most v (copied l d n) w' := by
 have hr := reaches_any h d
 rw [show there d l.length = true from by simp [there]; omega] at hr
 have hro := room_any h (by omega) hm
 have HR := hid hr
 have HRO := hid hro
 have HW := hid h
 have hcmp : decide ((most : Int) - (l.length : Int) < (n : Int)) = false := by simp; omega
 have hn0 : decide ((n : Int) < 0) = false := by simp
 clear hr hro h
 obtain ⟨i0, hi, hz0, hz1, hz2⟩ := info_parts info8
 go_enter Tryz.func79, Tryz.ntmps79
 go_wp2_with fail
 refine HR.out.mono ?_
 rintro e w1 ⟨rfl, rfl⟩
 go_wp2_with fail
 refine HRO.out.mono ?_
 rintro e w1 ⟨rfl, q, hq⟩
 have HG := hid (show Grew w b most v (copied l d 0) w1 from by rw [hq]; exact ⟨v, HW.out, Frame.of_drewN q, .inl rfl⟩)
 clear hq
 go_wp2_with fail
 go_loopw [22] (fun i wr => ∃ k : Nat, k <= n /\ i = .int .i64 k /\ Grew w b most v (copied l d k) wr) (fun i _ => n - (intOf i).toNat)
 case atStart => exact ⟨0, by omega, rfl, HG.out⟩
 case round =>
  obtain ⟨k, hk, rfl, hgrew⟩ := hrel
  by_cases hlt : k < n
  · obtain ⟨v1, hw1, hF1, hM1⟩ := hgrew
    have hL := copied_length l d k
    have hstep : copied l d (k + 1) = copied l d k ++ [(copied l d k).getD ((copied l d k).length - d) 0] := rfl
    have HS := hid hstep
    clear hstep
    rcases hw1.form with ⟨_, he⟩ | ⟨g, cap, rfl, hcap, hml, hcells⟩
    · rw [he] at hL; simp at hL; omega
    · have hcy := hcells ((copied l d k).length - d) (by omega)
      have hgy : (copied l d k).getD ((copied l d k).length - d) 0 = (copied l d k)[(copied l d k).length - d]'(by omega) := by simp [List.getD, show (copied l d k).length - d < (copied l d k).length from by omega]
      rw [hgy] at HS
      generalize (copied l d k)[(copied l d k).length - d]'(by omega) = y at *
      generalize copied l d k = lk at *
      have hc0 := hw1.cell0
      have hf0 := hw1.free 0
      have hblt := hw1.lt
      have HW1 := hid hw1
      have HF1 := hid hF1
      have HM1 := hid hM1
      have hb1 : lk.length + 1 <= maxLen := by unfold maxLen; omega
      have hb2 : (lk.length + 1) * 1 <= 140737488355328 := by omega
      have hdl : d <= lk.length := by omega
      have hll : lk.length <= 1099511627776 := by omega
      unfold maxLen at hml
      unfold byte at hcy
      clear hw1 hF1 hM1 hcells hgy hL
      have hown := HW1.out.2.1
      generalize hN : lk.length = N at *
      have HN := hid hN
      have HOWN := hid (fun o => (hown.alloc o).drew)
      clear hN hown
      have e1 : (0 : Int) <= (N : Int) - (d : Int) := by omega
      have e2 : (N : Int) - (d : Int) < (N : Int) := by omega
      have e3 : ((N : Int) - (d : Int)).toNat = N - d := by omega
      have e4 : IntKind.i64.wrap ((N : Int) - (d : Int)) = (N : Int) - (d : Int) := IntWalk.i64_in _ (by omega)
      go_wp2
      go_region_law ((refine step_append_lies _ rfl _ _ 43 rfl 0 5 i0 (.int .u8 0) 1 1 Tryz.underlying43 hi hz0 hz1 hz2 rfl (by decide) (.slice (some ⟨g, 0, none⟩) N cap) N (lk.map byte) (by simp [Act.eval]) (HOWN.out _) ⟨wr.heap.size, 0, none⟩ 1 1 [.int .u8 y.toNat] (by simp [Act.eval]) rfl (cell_one_new _ _ _) (one_cell y) (by decide) hb1 hb2 (Nat.zero_le _) (wr.heap.size + 1) (by simp) ?_); intro g2 cap2 w2 hown2 hgr2 hat2 hlt2; obtain ⟨hc2, hf2, hs2⟩ := after_append HW1.out ⟨hgr2.os, hgr2.tape, hgr2.output, hgr2.size, hgr2.block⟩; have HO := hid hown2; have HGR := hid hgr2; have HAT := hid hat2; clear hown2 hgr2 hat2)
      all_goals
       clear e1 e2 e3 e4
       have HGW := hid (show Grew w b most v (copied l d (k + 1)) (w2.setCell ⟨b, 0, none⟩ (.slice (some ⟨g2, 0, none⟩) (N + 1) cap2)) from by
        rw [HS.out]
        exact Grew.trans HF1.out HM1.out (grew_at HW1.out HN.out HO.out HGR.out HAT.out))
       go_wp2
       go_roundw
       case rel => exact ⟨k + 1, by omega, by go_num, HGW.out⟩
       case measure => simp [intOf]; omega
  · go_wp2
    go_ret
    exact ⟨rfl, by rw [show n = k from by omega]; exact hgrew⟩
end Go.Proofs.YtfpoabeihpfeiaaGreat.Wnd
end
section
namespace Go.Proofs.YtfpoabeihpfeiaaGreat.Wnd
open Go.RowKit
theorem put_of {w : World} {b : Nat} {v : Value} {most : Nat} {l : List UInt8} (h : Win w b v most l) (hl : l.length < most) (hm : most <= 9223372036854775807) (hs : l.length < 1099511627776) (x : UInt8) (n : Int) (hn : n = (x.toNat : Int)) :
  Calls Tryz.prog 78 #[.pointer (some ⟨b, 0, none⟩), .int .u8 n] w fun e w' => e = .returned (.bool true) /\ Grew w b most v (l ++ [x]) w' := by
 subst hn; exact put_yes h hl hm hs x
theorem copy_of {w : World} {b : Nat} {v : Value} {most : Nat} {l : List UInt8} (h : Win w b v most l) (d n : Nat) (di ni : Int) (hd : di = d) (hn : ni = n) (h1 : 1 <= d) (h2 : d <= l.length) (h3 : l.length + n <= most) (hm : most <= 9223372036854775807) (hs : l.length + n <= 1099511627776) :
  Calls Tryz.prog 79 #[.pointer (some ⟨b, 0, none⟩), .int .i64 di, .int .i64 ni] w fun e w' => e = .returned (.bool true) /\ Grew w b most v (copied l d n) w' := by
 subst hd hn; exact copy_yes h d n h1 h2 h3 hm hs
theorem Grew.fresh {w w' : World} {most : Nat} {l : List UInt8} {o : Obj} (h : Grew (w.alloc o) w.heap.size most (.slice none 0 0) l w') : Below w.heap.size w w' := by
 obtain ⟨_, _, hF, _⟩ := h
 refine (((Below.refl _ _).alloc (Nat.le_refl _) o)).trans (hF.below (by rw [World.size_alloc]; omega) fun k hk ho => ?_)
 rcases ho with ho | ho
 · omega
 · simp [Value.ownBlock] at ho
end Go.Proofs.YtfpoabeihpfeiaaGreat.Wnd
end
