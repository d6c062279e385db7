/-
  Package window: what a window is in memory ('Win'), and contracts of New, Len, Text, reaches, room, At, Put.
-/
import Derived.Test.YthejbnodalnnpaaRows
import Derived.Test.YthejbnodalnnpaaOwn
import Derived.WalkSpells
import Derived.WalkLawsBesides
import Derived.ProofKit
import Derived.Outline
import Derived.Laws.IdiomStrings
import Derived.Laws.BytesArg
import Derived.Deep.QuietTactic
import Derived.BigQuiet
import Derived.RegionTactic
import Derived.Lib.Hide
namespace Go.Proofs.Ythejbnodalnnpaa.Wnd
open Go.RowKit

def byte (x : UInt8) : Value := .int .u8 (x.toNat : Int)
/-- Block b is a window of at most 'most' bytes that holds the bytes l; its row is v's. -/
def Win (w : World) (b : Nat) (v : Value) (most : Nat) (l : List UInt8) : Prop :=
  w.heap[b]? = some (.cells #[v, .int .i64 (most : Int)] 158 (0, 0)) ∧ w.ownsRow 0 5 1 v l.length (l.map byte) ∧ v.ownBlock ≠ some b
/-- What a window owns. -/
def Owns (b : Nat) (v : Value) (k : Nat) : Prop := k = b ∨ v.ownBlock = some k

theorem Win.cell0 {w : World} {b : Nat} {v : Value} {most : Nat} {l : List UInt8} (h : Win w b v most l) : w.cell? ⟨b, 0, none⟩ = some v := by simp [World.cell?, h.1]
theorem Win.cell1 {w : World} {b : Nat} {v : Value} {most : Nat} {l : List UInt8} (h : Win w b v most l) : w.cell? ⟨b, 1, none⟩ = some (.int .i64 (most : Int)) := by simp [World.cell?, h.1]
theorem Win.free {w : World} {b : Nat} {v : Value} {most : Nat} {l : List UInt8} (h : Win w b v most l) (o : Nat) : w.frozen? ⟨b, o, none⟩ = false := by simp [World.frozen?, h.1]
theorem Win.lt {w : World} {b : Nat} {v : Value} {most : Nat} {l : List UInt8} (h : Win w b v most l) : b < w.heap.size := lt_of_heap h.1
theorem Win.frame {own : Nat → Prop} {w w' : World} {b : Nat} {v : Value} {most : Nat} {l : List UInt8} (h : Win w b v most l) (hf : Frame own w w') (hn : ∀ k, Owns b v k → ¬ own k) : Win w' b v most l :=
  ⟨(hf.block b h.lt (hn b (.inl rfl))).trans h.1, ownsRow_frame h.2.1 hf (fun k hk => hn k (.inr hk)), h.2.2⟩
theorem Win.drewN {w : World} {b : Nat} {v : Value} {most : Nat} {l : List UInt8} (h : Win w b v most l) (n : Nat) : Win (w.drewN n) b v most l := h
theorem Win.form {w : World} {b : Nat} {v : Value} {most : Nat} {l : List UInt8} (h : Win w b v most l) :
    (v = .slice none 0 0 ∧ l = []) ∨ ∃ g cap, v = .slice (some ⟨g, 0, none⟩) l.length cap ∧ l.length ≤ cap ∧ cap ≤ maxLen ∧ ∀ j (hj : j < l.length), w.cell? ⟨g, j, none⟩ = some (byte l[j]) := by
  rcases h.2.1.2 with ⟨h1, h2⟩ | ⟨g, cap, cur, rfl, _, hg, hnc, hcm, hcs, htake⟩
  · exact .inl ⟨h1, List.eq_nil_of_length_eq_zero h2⟩
  · refine .inr ⟨g, cap, rfl, hnc, hcm, fun j hj => ?_⟩
    rw [World.ownsRow.cellAt h.2.1 j (by omega)]
    simp [hj]
theorem Win.text {w : World} {b : Nat} {v : Value} {most : Nat} {l : List UInt8} (h : Win w b v most l) : (convert 26 9 v).run Try.prog w = .ok (.string ⟨l.toArray⟩) w := by
  rcases h.form with ⟨rfl, rfl⟩ | ⟨g, cap, rfl, _, _, hc⟩
  · exact run_convert_bytes_nil w 26 5 Try.underlying26 Try.underlying5 0 0 9 Try.underlying9
  · exact run_convert_bytes_back w 26 9 5 ⟨g, 0, none⟩ cap l Try.underlying26 Try.underlying5 Try.underlying9 (fun j hj => by
      have hplain : (⟨g, 0, none⟩ : Addr).add j = ⟨g, j, none⟩ := by unfold Addr.add; split <;> simp_all
      rw [hplain]; exact hc j hj)

theorem len_any {w : World} {b : Nat} {v : Value} {most : Nat} {l : List UInt8} (h : Win w b v most l) :
    Calls Try.prog 72 #[.pointer (some ⟨b, 0, none⟩)] w fun e w' => e = .returned (.int .i64 (l.length : Int)) ∧ w = w' := by
  have h0 := h.cell0
  rcases h.form with ⟨rfl, rfl⟩ | ⟨g, cap, rfl, _, _, _⟩
  all_goals
    clear h
    go_enter Try.func72, Try.ntmps72
    go_wp2
    go_ret
    exact ⟨rfl, rfl⟩
theorem text_any {w : World} {b : Nat} {v : Value} {most : Nat} {l : List UInt8} (h : Win w b v most l) :
    Calls Try.prog 74 #[.pointer (some ⟨b, 0, none⟩)] w fun e w' => e = .returned (.string ⟨l.toArray⟩) ∧ w = w' := by
  have h0 := h.cell0
  have ht := h.text
  clear h
  go_enter Try.func74, Try.ntmps74
  go_wp2
  go_ret
  exact ⟨rfl, rfl⟩
theorem ret_bool {a b : Bool} (h : a = b) : Ending.returned (.bool a) = .returned (.bool b) := by rw [h]
theorem ret_int {k : IntKind} {a b : Int} (h : a = b) : Ending.returned (.int k a) = .returned (.int k b) := by rw [h]
/-- Whether a byte lies so far back. -/
def there (d : Int) (n : Nat) : Bool := decide (1 ≤ d) && decide (d ≤ n)
theorem reaches_any {w : World} {b : Nat} {v : Value} {most : Nat} {l : List UInt8} (h : Win w b v most l) (d : Int) :
    Calls Try.prog 100 #[.pointer (some ⟨b, 0, none⟩), .int .i64 d] w fun e w' => e = .returned (.bool (there d l.length)) ∧ w = w' := by
  by_cases hd : 1 ≤ d
  · have HH := Lib.hid h
    clear h
    go_enter Try.func100, Try.ntmps100
    go_wp2_with fail
    refine (len_any HH.out).mono ?_
    rintro e w' ⟨rfl, rfl⟩
    go_wp2
    go_ret
    exact ⟨ret_bool (by simp [there, hd]), rfl⟩
  · have hd' : decide (1 ≤ d) = false := by simpa using hd
    clear h
    go_enter Try.func100, Try.ntmps100
    go_wp2_with fail
    go_ret
    exact ⟨ret_bool (by simp [there, hd']), rfl⟩
theorem room_any {w : World} {b : Nat} {v : Value} {most : Nat} {l : List UInt8} (h : Win w b v most l) (hl : l.length ≤ most) (hm : most ≤ 9223372036854775807) :
    Calls Try.prog 99 #[.pointer (some ⟨b, 0, none⟩)] w fun e w' => e = .returned (.int .i64 ((most : Int) - (l.length : Int))) ∧ ∃ n, w' = w.drewN n := by
  have h0 := h.cell0
  have h1 := h.cell1
  rcases h.form with ⟨rfl, rfl⟩ | ⟨g, cap, rfl, _, _, _⟩
  all_goals
    clear h
    go_enter Try.func99, Try.ntmps99
    go_wp2
    go_quiet (fail)
    go_wp2
    go_ret
    exact ⟨rfl, _, rfl⟩
theorem new_any (m : Int) (w : World) :
    Calls Try.prog 70 #[.int .i64 m] w fun e w' => e = .returned (.pointer (some ⟨w.heap.size, 0, none⟩)) ∧ w' = w.alloc (.cells #[.slice none 0 0, .int .i64 (m.toNat : Int)] 158) := by
  by_cases hm : 0 ≤ m
  · obtain ⟨k, rfl⟩ := Int.eq_ofNat_of_zero_le hm
    go_enter Try.func70, Try.ntmps70
    go_wp2
    go_ret
    exact ⟨rfl, rfl⟩
  · have h0 : m.toNat = 0 := by omega
    rw [h0]
    go_enter Try.func70, Try.ntmps70
    go_wp2
    go_ret
    exact ⟨rfl, rfl⟩
theorem win_new (w : World) (most : Nat) : Win (w.alloc (.cells #[.slice none 0 0, .int .i64 (most : Int)] 158)) w.heap.size (.slice none 0 0) most [] :=
  ⟨heap_alloc_new w _, World.ownsRow_nil _ _ _ _, by simp [Value.ownBlock]⟩
theorem info8 : (Try.prog.info? 5).map (fun i => (i.zero, i.size, i.bytes)) = some (some (.int .u8 0), 1, 1) := by kernel_rfl
theorem one_cell (x : UInt8) : ∀ u ∈ [Value.int .u8 (x.toNat : Int)], u.oneCell' = true := by intro u hu; simp at hu; subst hu; rfl
/-- The window has become l'. -/
def Grew (w : World) (b most : Nat) (v : Value) (l' : List UInt8) (w' : World) : Prop := ∃ v', Win w' b v' most l' ∧ Frame (Owns b v) w w' ∧ Moved w v v'
theorem after_append {w w2 : World} {b : Nat} {v : Value} {most : Nat} {l : List UInt8} {o : Obj} (h : Win w b v most l) (hg : (w.alloc o).grownBy w2 v.ownBlock) :
    w2.cell? ⟨b, 0, none⟩ = some v ∧ w2.frozen? ⟨b, 0, none⟩ = false ∧ b < w2.heap.size := by
  have hb := hg.block b (by have := h.lt; simp; omega) (fun e => h.2.2 e.symm)
  rw [Below.heap_alloc w o b h.lt] at hb
  exact ⟨by simp [World.cell?, hb, h.1], by simp [World.frozen?, hb, h.1], by have h1 := hg.size; have h2 := h.lt; rw [World.size_alloc] at h1; omega⟩
theorem grew_of {w w1 w2 : World} {b : Nat} {v v' : Value} {most : Nat} {l : List UInt8} {x : UInt8} {o : Obj} (h : Win w1 b v most l) (hF : Frame (Owns b v) w w1) (hsz : w1.heap.size = w.heap.size)
    (ho : w2.ownsRow 0 5 1 v' (l.length + 1) (l.map byte ++ [byte x])) (hg : (w1.alloc o).grownBy w2 v.ownBlock) (hm : Moved (w1.alloc o) v v') :
    Grew w b most v (l ++ [x]) (w2.setCell ⟨b, 0, none⟩ v') := by
  have hlt := h.lt
  have hb := hg.block b (by rw [World.size_alloc]; omega) (fun e => h.2.2 e.symm)
  rw [Below.heap_alloc w1 o b hlt, h.1] at hb
  have hne : v'.ownBlock ≠ some b := by
    rcases hm with e | e
    · rw [e]; exact h.2.2
    · intro e2
      have := e b e2
      rw [World.size_alloc] at this; omega
  refine ⟨v', ⟨?_, ?_, hne⟩, ?_, ?_⟩
  · rw [heap_setCell_same w2 b 0 _ _ v' hb]; rfl
  · have := ownsRow_frame ho ((Frame.refl (fun k => k = b) w2).setCell (p := ⟨b, 0, none⟩) (.inl rfl) v') (fun k hk e => hne (by rw [hk, e]))
    simpa using this
  · exact ((hF.alloc o).grown hg (fun k hk => .inl (.inr hk))).setCell (.inl (.inl rfl)) _
  · rcases hm with e | e
    · exact .inl e
    · exact .inr fun k hk => by have := e k hk; rw [World.size_alloc] at this; omega
set_option maxHeartbeats 400000 in
theorem put_yes {w : World} {b : Nat} {v : Value} {most : Nat} {l : List UInt8} (h : Win w b v most l) (hl : l.length < most) (hm : most ≤ 9223372036854775807) (hs : l.length < 1099511627776) (x : UInt8) :
    Calls Try.prog 94 #[.pointer (some ⟨b, 0, none⟩), byte x] w fun e w' => e = .returned (.bool true) ∧ Grew w b most v (l ++ [x]) w' := by
  have hr := room_any h (by omega) hm
  have hrm : ((most : Int) - (l.length : Int) < 1) = False := by simp; omega
  have HR := Lib.hid hr
  have HW := Lib.hid h
  clear hr h
  have hb1 : l.length + 1 ≤ maxLen := by unfold maxLen; omega
  have hb2 : (l.length + 1) * 1 ≤ 140737488355328 := by omega
  obtain ⟨i0, hi, hz0, hz1, hz2⟩ := info_parts info8
  unfold byte
  go_enter Try.func94, Try.ntmps94
  go_wp2_with fail
  refine HR.out.mono ?_
  rintro e w1 ⟨rfl, n, hn⟩
  have h : Win w1 b v most l := by rw [hn]; exact HW.out
  have HF := Lib.hid (show Frame (Owns b v) w w1 from by rw [hn]; exact Frame.of_drewN n)
  have hsz := Lib.hid (show w1.heap.size = w.heap.size from by rw [hn]; rfl)
  clear hn HR HW
  have h0 := h.cell0
  have hf := h.free 0
  have hlt := h.lt
  have HW := Lib.hid h
  clear h
  go_wp2_with (at_builtin; refine wpList_append_one _ rfl _ _ 26 rfl 5 i0 (.int .u8 0) 1 1 Try.underlying26 hi hz0 hz1 hz2 rfl (by decide) v _ _ rfl (HW.out.2.1.alloc _) ⟨w1.heap.size, 0, none⟩ 1 [.int .u8 (x.toNat : Int)] rfl rfl (cell_one_new _ _ _) (one_cell x) hb1 hb2 ?_; intro g cap w2 hown2 hgr2 hmv2; obtain ⟨hc2, hf2, hz2⟩ := after_append HW.out hgr2; have HO := Lib.hid hown2; have HG := Lib.hid hgr2; have HM := Lib.hid hmv2; clear hown2 hgr2 hmv2)
  go_ret
  exact ⟨rfl, grew_of HW.out HF.out hsz.out HO.out HG.out HM.out⟩
theorem put_no {w : World} {b : Nat} {v : Value} {most : Nat} {l : List UInt8} (h : Win w b v most l) (hl : l.length = most) (hm : most ≤ 9223372036854775807) (x : Value) :
    Calls Try.prog 94 #[.pointer (some ⟨b, 0, none⟩), x] w fun e w' => e = .returned (.bool false) ∧ ∃ n, w' = w.drewN n := by
  have hr := room_any h (by omega) hm
  rw [hl, Int.sub_self] at hr
  have HR := Lib.hid hr
  clear hr h hl
  go_enter Try.func94, Try.ntmps94
  go_wp2_with fail
  refine HR.out.mono ?_
  rintro e w1 ⟨rfl, n, hn⟩
  have HN := Lib.hid hn
  clear hn
  go_wp2
  go_ret
  exact ⟨rfl, n, HN.out⟩
theorem nil_len (w : World) : Calls Try.prog 72 #[.pointer none] w fun e w' => e = .returned (.int .i64 0) ∧ w = w' := by
  go_enter Try.func72, Try.ntmps72
  go_wp2
  go_ret
  exact ⟨rfl, rfl⟩
theorem nil_text (w : World) : Calls Try.prog 74 #[.pointer none] w fun e w' => e = .returned (.string ⟨#[]⟩) ∧ w = w' := by
  go_enter Try.func74, Try.ntmps74
  go_wp2
  go_ret
  exact ⟨rfl, rfl⟩
theorem nil_room (w : World) : Calls Try.prog 99 #[.pointer none] w fun e w' => e = .returned (.int .i64 0) ∧ w = w' := by
  go_enter Try.func99, Try.ntmps99
  go_wp2
  go_ret
  exact ⟨rfl, rfl⟩
theorem nil_reaches (w : World) : Calls Try.prog 100 #[.pointer none, .int .i64 1] w fun e w' => e = .returned (.bool false) ∧ w = w' := by
  go_enter Try.func100, Try.ntmps100
  go_wp2_with fail
  refine (nil_len _).mono ?_
  rintro e w' ⟨rfl, rfl⟩
  go_wp2
  go_ret
  exact ⟨rfl, rfl⟩
theorem nil_put (w : World) (x : Value) : Calls Try.prog 94 #[.pointer none, x] w fun e w' => e = .returned (.bool false) ∧ w = w' := by
  go_enter Try.func94, Try.ntmps94
  go_wp2_with fail
  refine (nil_room _).mono ?_
  rintro e w' ⟨rfl, rfl⟩
  go_wp2
  go_ret
  exact ⟨rfl, rfl⟩
theorem nil_copy (w : World) (n : Int) : Calls Try.prog 95 #[.pointer none, .int .i64 1, .int .i64 n] w fun e w' => e = .returned (.bool false) ∧ w = w' := by
  go_enter Try.func95, Try.ntmps95
  go_wp2_with fail
  refine (nil_reaches _).mono ?_
  rintro e w' ⟨rfl, rfl⟩
  go_wp2
  go_ret
  exact ⟨rfl, rfl⟩
end Go.Proofs.Ythejbnodalnnpaa.Wnd
