/-
  Package packet: the contract of writeTo.
-/
import Derived.Test.YthejbnodalnnpaaPackMem
import Derived.Test.YthejbnodalnnpaaWinSpeaks
namespace Go.Proofs.Ythejbnodalnnpaa.Pk
open Go.RowKit
open Wnd (Win Grew Owns copied)
/-- The text behind a packet that fits, if there is room for it. -/
def Pt.tell (p : Pt) (most : Nat) (l : List UInt8) (d n : Int) : Option (List UInt8) :=
  if p.k = 1 then (if l.length < most then some (l ++ [UInt8.ofNat p.b]) else none)
  else if l.length + n.toNat ≤ most then some (copied l d.toNat n.toNat) else none
def tellVal : Option (List UInt8) → Bool
  | none => false
  | some _ => true
theorem win_alloc {w : World} {b : Nat} {v : Value} {most : Nat} {l : List UInt8} (h : Win w b v most l) (o : Obj) : Win (w.alloc o) b v most l :=
  h.frame (own := fun _ => False) ((Frame.refl _ w).alloc o) (fun _ _ hn => hn)
theorem grew_alloc {w w2 : World} {b : Nat} {v : Value} {most : Nat} {l2 : List UInt8} {o : Obj} (h : Grew (w.alloc o) b most v l2 w2) : Grew w b most v l2 w2 :=
  Grew.trans ((Frame.refl _ w).alloc o) (.inl rfl) h
theorem Wnd_drewN {w w2 : World} {b : Nat} {v : Value} {most : Nat} {l2 : List UInt8} (h : Grew w b most v l2 w2) (q : Nat) : Grew w b most v l2 (w2.drewN q) := by
  obtain ⟨v', hw, hf, hm⟩ := h
  exact ⟨v', hw.drewN q, hf.drewN q, hm⟩
set_option maxHeartbeats 1000000 in
theorem write_lit {w : World} {b : Nat} {v : Value} {most : Nat} {l : List UInt8} (h : Win w b v most l) (hl : l.length ≤ most) (hm : most ≤ 9223372036854775807) (hs : l.length < 1099511627776) (pd pn : Int) (pb : Nat) (hpb : pb < 256) (d n : Int) :
    Calls Try.prog 73 #[.agg #[.int .i64 1, .int .i64 pd, .int .i64 pn, .int .u8 (pb : Int)], .pointer (some ⟨b, 0, none⟩), .int .i64 d, .int .i64 n] w fun x w' =>
      if l.length < most then x = .returned (.bool true) ∧ Grew w b most v (l ++ [UInt8.ofNat pb]) w' else x = .returned (.bool false) ∧ Grew w b most v l w' := by
  have hx : (pb : Int) = ((UInt8.ofNat pb).toNat : Int) := by simp; omega
  by_cases hlt : l.length < most
  · simp only [if_pos hlt]
    have HP := Lib.hid (Wnd.put_of (win_alloc h (.cells #[.int .i64 1, .int .i64 pd, .int .i64 pn, .int .u8 (pb : Int)] 74 (0, 0))) hlt hm hs (UInt8.ofNat pb) (pb : Int) hx)
    clear h hx
    go_enter Try.func73, Try.ntmps73
    go_wp2_with fail
    refine HP.out.mono ?_
    rintro x w1 ⟨rfl, hg⟩
    have HG := Lib.hid (grew_alloc hg)
    clear hg HP
    go_wp2
    go_ret
    exact ⟨rfl, HG.out⟩
  · simp only [if_neg hlt]
    have HP := Lib.hid (Wnd.put_no (win_alloc h (.cells #[.int .i64 1, .int .i64 pd, .int .i64 pn, .int .u8 (pb : Int)] 74 (0, 0))) (by omega) hm (.int .u8 (pb : Int)))
    have HG0 := Lib.hid (grew_alloc (Grew.refl (win_alloc h (.cells #[.int .i64 1, .int .i64 pd, .int .i64 pn, .int .u8 (pb : Int)] 74 (0, 0)))))
    clear h hx
    go_enter Try.func73, Try.ntmps73
    go_wp2_with fail
    refine HP.out.mono ?_
    rintro x w1 ⟨rfl, q, hg⟩
    have HG := Lib.hid (show Grew w b most v l w1 from by rw [hg]; exact Wnd_drewN HG0.out q)
    clear hg HP HG0
    go_wp2
    go_ret
    exact ⟨rfl, HG.out⟩
set_option maxHeartbeats 1000000 in
theorem write_copy {w : World} {b : Nat} {v : Value} {most : Nat} {l : List UInt8} (h : Win w b v most l) (hl : l.length ≤ most) (hm : most ≤ 9223372036854775807) (hs : l.length ≤ 1099511000000) (pk pd pn : Int) (pb : Nat) (hpk : pk ≠ 1) (d n : Int) (h1 : 1 ≤ d) (h2 : d ≤ l.length) (h3 : 0 ≤ n) (h4 : n ≤ 273) :
    Calls Try.prog 73 #[.agg #[.int .i64 pk, .int .i64 pd, .int .i64 pn, .int .u8 (pb : Int)], .pointer (some ⟨b, 0, none⟩), .int .i64 d, .int .i64 n] w fun x w' =>
      if l.length + n.toNat ≤ most then x = .returned (.bool true) ∧ Grew w b most v (copied l d.toNat n.toNat) w' else x = .returned (.bool false) ∧ Grew w b most v l w' := by
  have hk : (pk == 1) = false := by simpa using hpk
  by_cases hlt : l.length + n.toNat ≤ most
  · simp only [if_pos hlt]
    have HP := Lib.hid (Wnd.copy_of (win_alloc h (.cells #[.int .i64 pk, .int .i64 pd, .int .i64 pn, .int .u8 (pb : Int)] 74 (0, 0))) d.toNat n.toNat d n (by omega) (by omega) (by omega) (by omega) hlt hm (by omega))
    clear h
    go_enter Try.func73, Try.ntmps73
    go_wp2_with fail
    refine HP.out.mono ?_
    rintro x w1 ⟨rfl, hg⟩
    have HG := Lib.hid (grew_alloc hg)
    clear hg HP
    go_wp2
    go_ret
    exact ⟨rfl, HG.out⟩
  · simp only [if_neg hlt]
    have HP := Lib.hid (Wnd.copy_over (win_alloc h (.cells #[.int .i64 pk, .int .i64 pd, .int .i64 pn, .int .u8 (pb : Int)] 74 (0, 0))) d n (by unfold Wnd.there; simp; omega) h3 hl hm (by omega))
    have HG0 := Lib.hid (grew_alloc (Grew.refl (win_alloc h (.cells #[.int .i64 pk, .int .i64 pd, .int .i64 pn, .int .u8 (pb : Int)] 74 (0, 0)))))
    clear h
    go_enter Try.func73, Try.ntmps73
    go_wp2_with fail
    refine HP.out.mono ?_
    rintro x w1 ⟨rfl, q, hg⟩
    have HG := Lib.hid (show Grew w b most v l w1 from by rw [hg]; exact Wnd_drewN HG0.out q)
    clear hg HP HG0
    go_wp2
    go_ret
    exact ⟨rfl, HG.out⟩
end Go.Proofs.Ythejbnodalnnpaa.Pk
