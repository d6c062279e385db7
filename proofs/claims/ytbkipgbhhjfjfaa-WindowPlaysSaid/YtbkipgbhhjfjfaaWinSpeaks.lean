/-
  The first lines of the statements of layer 2 (a window of nine bytes that copies itself): they answer true, and write nothing that was there.
-/
import Derived.Test.YtbkipgbhhjfjfaaWinCopy
namespace Go.Proofs.Ytbkipgbhhjfjfaa.Wnd
open Go.RowKit
theorem put_of {w : World} {b : Nat} {v : Value} {most : Nat} {l : List UInt8} (h : Win w b v most l) (hl : l.length < most) (hm : most ≤ 9223372036854775807) (hs : l.length < 1099511627776) (x : UInt8) (n : Int) (hn : n = (x.toNat : Int)) :
    Calls Try.prog 16 #[.pointer (some ⟨b, 0, none⟩), .int .u8 n] w fun e w' => e = .returned (.bool true) ∧ Grew w b most v (l ++ [x]) w' := by
  subst hn; exact put_yes h hl hm hs x
theorem copy_of {w : World} {b : Nat} {v : Value} {most : Nat} {l : List UInt8} (h : Win w b v most l) (d n : Nat) (di ni : Int) (hd : di = d) (hn : ni = n) (h1 : 1 ≤ d) (h2 : d ≤ l.length) (h3 : l.length + n ≤ most) (hm : most ≤ 9223372036854775807) (hs : l.length + n ≤ 1099511627776) :
    Calls Try.prog 14 #[.pointer (some ⟨b, 0, none⟩), .int .i64 di, .int .i64 ni] w fun e w' => e = .returned (.bool true) ∧ Grew w b most v (copied l d n) w' := by
  subst hd hn; exact copy_yes h d n h1 h2 h3 hm hs
/-- A window that was new in w. -/
theorem Grew.fresh {w w' : World} {most : Nat} {l : List UInt8} {o : Obj} (h : Grew (w.alloc o) w.heap.size most (.slice none 0 0) l w') : Below w.heap.size w w' := by
  obtain ⟨_, _, hF, _⟩ := h
  refine (((Below.refl _ _).alloc (Nat.le_refl _) o)).trans (hF.below (by rw [World.size_alloc]; omega) fun k hk ho => ?_)
  rcases ho with ho | ho
  · omega
  · simp [Value.ownBlock] at ho
set_option maxHeartbeats 1000000 in
theorem speaks_any (w : World) :
    Calls Try.prog 12 #[] w fun e w' => e = .returned (.bool true) ∧ Below w.heap.size w w' := by
  go_enter Try.func12, Try.ntmps12
  go_wp2_with fail
  refine (new_any 9 w).mono ?_
  rintro e w1 ⟨rfl, hw1⟩
  have G0 : Grew (w.alloc (.cells #[.slice none 0 0, .int .i64 (((9 : Int).toNat : Nat) : Int)] 47)) w.heap.size 9 (.slice none 0 0) [] w1 := by rw [hw1]; exact Grew.refl (win_new w 9)
  have H0 := Lib.hid G0
  clear hw1 G0
  obtain ⟨v0, a0, f0, m0⟩ := H0.out
  have A0 := Lib.hid a0
  clear a0
  go_wp2_with fail
  refine (put_of A0.out (by decide) (by decide) (by decide) 97 97 rfl).mono ?_
  rintro e w2 ⟨rfl, g1⟩
  have H1 := Lib.hid (Grew.trans f0 m0 g1)
  clear g1 f0 m0 A0 H0
  obtain ⟨v1, a1, f1, m1⟩ := H1.out
  have A1 := Lib.hid a1
  clear a1
  go_wp2_with fail
  refine (put_of A1.out (by decide) (by decide) (by decide) 98 98 rfl).mono ?_
  rintro e w3 ⟨rfl, g1⟩
  have H2 := Lib.hid (Grew.trans f1 m1 g1)
  clear g1 f1 m1 A1 H1
  obtain ⟨v2, a2, f2, m2⟩ := H2.out
  have A2 := Lib.hid a2
  clear a2
  go_wp2_with fail
  refine (copy_of A2.out 2 3 2 3 rfl rfl (by decide) (by decide) (by decide) (by decide) (by decide)).mono ?_
  rintro e w4 ⟨rfl, g1⟩
  have H3 := Lib.hid (Grew.trans f2 m2 g1)
  clear g1 f2 m2 A2 H2
  obtain ⟨v3, a3, f3, m3⟩ := H3.out
  rw [show copied (([] ++ [97]) ++ [98]) 2 3 = [97, 98, 97, 98, 97] from by decide] at a3
  have A3 := Lib.hid a3
  clear a3 f3 m3
  go_wp2_with fail
  refine (text_any A3.out).mono ?_
  rintro e w5 ⟨rfl, rfl⟩
  go_wp2_with fail
  refine (len_any A3.out).mono ?_
  rintro e w5 ⟨rfl, rfl⟩
  go_wp2
  go_ret
  exact ⟨rfl, H3.out.fresh⟩
end Go.Proofs.Ytbkipgbhhjfjfaa.Wnd
