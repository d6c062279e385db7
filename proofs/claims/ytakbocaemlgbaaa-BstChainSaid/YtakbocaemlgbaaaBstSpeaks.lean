/-
  Layer 8's statements: a finder in a law; speaks.
-/
import Derived.Test.YtakbocaemlgbaaaBstRef
namespace Go.Proofs.Ytakbocaemlgbaaa.Bs
open Go.RowKit Go.Maps
open Mt
open Ch (bt bt_at bt_lt Dm ret_num Founds)
def ab : ByteArray := ⟨#[97, 98, 97, 98, 98]⟩
theorem ab_size : ab.size = 5 := rfl
theorem ab_0 : bstL ab 99 0 = [] := by kernel_rfl
theorem ab_1 : bstL ab 99 1 = [] := by kernel_rfl
theorem ab_2 : bstL ab 99 2 = [(2, 2)] := by kernel_rfl
/-- A finder at a place, since w0; nothing that was there was written. -/
def BinOk (w0 : World) (c a : Nat) (s : ByteArray) (window : Int) (p B : Nat) (v : Value) (w : World) : Prop :=
  ∃ O xs D, BinAt w O c a s window p p B v xs D ∧ (p + 2 ≤ s.size → Forest (bt s) (lim s) s.size window (cf xs) p) ∧ Below w0.heap.size w0 w ∧ ∀ k, k < w0.heap.size → O k ≠ c
section
variable {w0 w w' : World} {c a : Nat} {s : ByteArray} {window : Int} {p B : Nat} {v : Value}
theorem BinOk.news (h : BinOk w0 c a s window p B v w) (hb : Below w.heap.size w w') : BinOk w0 c a s window p B v w' := by
  obtain ⟨O, xs, D, h1, hf, h2, h3⟩ := h
  exact ⟨O, xs, D, h1.below hb, hf, h2.trans (hb.mono h2.size), h3⟩
theorem BinOk.below (h : BinOk w0 c a s window p B v w) : Below w0.heap.size w0 w := by
  obtain ⟨_, _, _, _, _, hb, _⟩ := h
  exact hb
/-- Next, of a finder in a law. -/
def NextOk (w0 w : World) (c a : Nat) (s : ByteArray) (window : Int) (p B : Nat) (v : Value) (x : Ending) (w' : World) : Prop :=
  ∃ v', x = .returned v' ∧ Founds 32 w w' v' (bstL s window p) ∧ BinOk w0 c a s window (min (p + 1) s.size) B v w'
theorem next_ok (h : BinOk w0 c a s window p B v w) (hw0 : -9223372036854775808 ≤ window) (hw1 : window ≤ 9223372036854775807) :
    Calls Try.prog 12 #[.pointer (some ⟨a, 0, none⟩)] w (NextOk w0 w c a s window p B v) := by
  obtain ⟨O, xs, D, h1, hf, h2, h3⟩ := h
  refine (next_any h1 hf hw0 hw1 (c + 1) (by omega)).mono ?_
  rintro x w' ⟨v', rfl, hfo, xs', D', hs, hF, hf'⟩
  exact ⟨v', rfl, hfo, _, xs', D', hF, hf', h2.trans (hs.below h2.size (fun k hk => by simpa using h3 k hk)), fun k hk => by rw [hs.ext k (Nat.lt_of_lt_of_le hk h2.size)]; exact h3 k hk⟩
theorem BinOk.bplace (h : BinOk w0 c a s window p B v w) :
    Calls Try.prog 14 #[.pointer (some ⟨a, 0, none⟩)] w fun x w' => x = .returned (.int .i64 (p : Int)) ∧ w = w' := by
  obtain ⟨O, xs, D, h1, _⟩ := h
  exact bst_place_raw h1.cells.2.2.1
end
/-- New, in a law: the finder's colour is new. -/
def NewOk (w0 w : World) (s : ByteArray) (window : Int) (x : Ending) (w' : World) : Prop := ∃ c a B v, x = .returned (.pointer (some ⟨a, 0, none⟩)) ∧ BinOk w0 c a s window 0 B v w' ∧ Below w.heap.size w w'
theorem new_ok {w0 w : World} (hb : Below w0.heap.size w0 w) (s : ByteArray) (window : Int) (hs : s.size ≤ 1000000000) :
    Calls Try.prog 11 #[.string s, .int .i64 window] w (NewOk w0 w s window) := by
  refine (new_any s window w (fun _ => 0) 1 hs).mono ?_
  rintro x w' ⟨a, O', B, v, xs, D, rfl, hst, hF⟩
  have hbw : Below w.heap.size w w' := hst.below (Nat.le_refl _) (fun k _ => by simp)
  exact ⟨1, a, B, v, rfl, ⟨O', xs, D, hF, fun _ => forest_none _ _ _ _ _, hb.trans (hbw.mono hb.size), fun k hk => by rw [hst.ext k (Nat.lt_of_lt_of_le hk hb.size)]; decide⟩, hbw⟩
set_option maxRecDepth 100000 in
set_option maxHeartbeats 2000000 in
theorem speaks8 (w : World) : Calls Try.prog 10 #[] w fun x w' => x = .returned (.bool true) ∧ Below w.heap.size w w' := by
  have HN := Lib.hid (new_ok (Below.refl _ w) ab 99 (by rw [ab_size]; omega))
  go_enter Try.func10, Try.ntmps10
  go_wp2_with fail
  refine (show Calls Try.prog 11 #[.string ⟨#[97, 98, 97, 98, 98]⟩, .int .i64 99] w (NewOk w w ab 99) from HN.out).mono ?_
  rintro x w1 ⟨c, a, B, v, rfl, hF, _⟩
  have HNX := Lib.hid (next_ok hF (by omega) (by omega))
  clear hF HN
  go_wp2_with fail
  refine HNX.out.mono ?_
  rintro x w2 ⟨v2, rfl, hfo, hF⟩
  rw [ab_0] at hfo
  rw [show min (0 + 1) ab.size = 1 from rfl] at hF
  obtain ⟨A2, c2, rfl⟩ := hfo.slice
  have HNX2 := Lib.hid (next_ok hF (by omega) (by omega))
  clear hF hfo HNX
  go_wp2_with fail
  refine HNX2.out.mono ?_
  rintro x w3 ⟨v3, rfl, hfo, hF⟩
  rw [ab_1] at hfo
  rw [show min (1 + 1) ab.size = 2 from rfl] at hF
  obtain ⟨A3, c3, rfl⟩ := hfo.slice
  have HNX3 := Lib.hid (next_ok hF (by omega) (by omega))
  clear hF hfo HNX2
  go_wp2_with fail
  refine HNX3.out.mono ?_
  rintro x w4 ⟨v4, rfl, hfo, hF⟩
  rw [ab_2] at hfo
  rw [show min (2 + 1) ab.size = 3 from rfl] at hF
  rcases hfo.form with ⟨_, h2⟩ | ⟨g, cap, rfl, _, _⟩
  · cases h2
  · obtain ⟨c0, c1⟩ := hfo.cell 0 (by simp)
    have hF2 : BinOk w c a ab 99 3 B v w4 := hF
    have HP := Lib.hid (BinOk.bplace hF2)
    have HB := Lib.hid (BinOk.below hF2)
    clear hF2
    simp at c0 c1
    clear hfo hF HNX3
    go_wp2_with fail
    refine HP.out.mono ?_
    rintro x w5 ⟨rfl, rfl⟩
    go_wp2_with fail
    go_ret
    exact ⟨rfl, HB.out⟩
end Go.Proofs.Ytakbocaemlgbaaa.Bs
