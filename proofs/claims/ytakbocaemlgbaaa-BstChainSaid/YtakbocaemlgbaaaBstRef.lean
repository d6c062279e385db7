/-
  The document's answer for layer 8: the contract of All.
-/
import Derived.Test.YtakbocaemlgbaaaBstNext
namespace Go.Proofs.Ytakbocaemlgbaaa.Bs
open Go.RowKit Go.Maps
open Mt
open Ch (bt bt_at bt_lt Dm ret_num Founds infoR fd_new fd_one matches_any RefTo)
/-- Within the loop of All. -/
structure AllAt (w0 : World) (b : Nat → Nat) (p most : Nat) (window : Int) (full : List (Nat × Nat)) (x best : Nat) (v : Value) (w : World) (l : List (Nat × Nat)) : Prop where
  founds : Founds 31 w0 w v l
  below : Below w0.heap.size w0 w
  eq : l ++ allL b p most window x best = full
  len : l.length ≤ best
  le : best ≤ 273
theorem AllAt.news {w0 w w' : World} {b : Nat → Nat} {p most x best : Nat} {window : Int} {full l : List (Nat × Nat)} {v : Value} (h : AllAt w0 b p most window full x best v w l) (hb : Below w.heap.size w w') : AllAt w0 b p most window full x best v w' l :=
  ⟨h.founds.below hb, h.below.trans (hb.mono h.below.size), h.eq, h.len, h.le⟩
set_option maxRecDepth 100000 in
set_option maxHeartbeats 4000000 in
theorem all_any (s : ByteArray) (p : Nat) (window : Int) (hp : p ≤ s.size) (hs : s.size ≤ 1000000000) (w : World) :
    Calls Try.prog 13 #[.string s, .int .i64 (p : Int), .int .i64 window] w (RefTo w (bstL s window p)) := by
  obtain ⟨i0, hi, hz0, hz1, hz2⟩ := info_parts infoR
  have HI := Lib.hid hi
  have HZ0 := Lib.hid hz0
  have HZ1 := Lib.hid hz1
  have HZ2 := Lib.hid hz2
  have HMA := Lib.hid (fun d (hd : d ≤ p) W => matches_any s p d hp hd (by omega) W)
  have HL0 : Hid (AllAt w (bt s) p (min (s.size - p) 273) window (bstL s window p) p 1 (.slice none 0 0) w []) := Lib.hid ⟨Founds.nil _ _ _, Below.refl _ _, rfl, by simp, by omega⟩
  have hm2 : min (s.size - p) 273 ≤ 273 := by omega
  clear hi hz0 hz1 hz2
  generalize bstL s window p = full at *
  generalize min (s.size - p) 273 = most at *
  go_enter Try.func13, Try.ntmps13
  go_wp2_with fail
  go_loopw [7, 8, 9] (fun v7 v8 v9 wr => ∃ (x best d : Nat) (l0 : List (Nat × Nat)), x ≤ p ∧ d = p + 1 - x ∧ v9 = .int .i64 d ∧ v8 = .int .i64 best ∧ AllAt w (bt s) p most window full x best v7 wr l0) (fun _ _ v9 _ => p + 1 - (intOf v9).toNat)
  case atStart => exact ⟨p, 1, 1, [], Nat.le_refl _, by omega, rfl, rfl, HL0.out⟩
  case round =>
    clear HL0
    obtain ⟨x, best, d, l0, hx, hd, rfl, rfl, hL⟩ := hrel
    have HL := Lib.hid hL
    have hlm := hL.le
    have hll := hL.len
    have HD := Lib.hid hd
    clear hL hd
    cases x with
    | zero =>
      as_aux_lemma =>
      -- BEGIN z
      have HE := Lib.hid (show l0 = full by have := HL.out.eq; rw [allL, List.append_nil] at this; exact this)
      have hdl : decide (d ≤ p) = false := by have := HD.out; simp; omega
      go_wp2_with fail
      go_ret
      exact ⟨_, rfl, by rw [← HE.out]; exact HL.out.founds, HL.out.below⟩
      -- END z
    | succ x =>
      have hdx : d + x = p := by have := HD.out; omega
      have hdl : decide (d ≤ p) = true := by simp; omega
      have hd1 : d + 1 = p + 1 - x := by omega
      by_cases hw : (d : Int) ≤ window
      · have hgo := HL.out.eq
        rw [allL, if_pos (by rw [show ((p - x : Nat) : Int) = (d : Int) from by omega]; exact hw), show p - x = d from by omega] at hgo
        have HGO := Lib.hid hgo
        have hw1 : decide ((d : Int) ≤ window) = true := by simpa using hw
        have HM := Lib.hid (HMA.out d (by omega))
        rw [show p - d = x from by omega] at HM
        have hml := mat_le (bt s) p x most 0
        rw [Nat.zero_add] at hml
        clear hgo hw
        as_aux_lemma =>
        -- BEGIN go
        generalize mat (bt s) p x 0 most = n at *
        go_wp2_with fail
        refine (HM.out _).mono ?_
        rintro y w4 ⟨rfl, n4, rfl⟩
        have HL4 := Lib.hid (HL.out.news (below_drewN (Below.refl _ _) n4))
        clear HM HL
        generalize wr.drewN n4 = W4 at *
        by_cases hn : best < n
        · have HGO3 := Lib.hid (show l0 ++ (n, d) :: allL (bt s) p most window x n = full by rw [← HGO.out, if_pos hn])
          have hn1 : l0.length + 1 ≤ maxLen := by unfold maxLen; omega
          have hn2 : (l0.length + 1) * 16 ≤ 140737488355328 := by omega
          have HROW := Lib.hid HL4.out.founds.row
          clear HGO
          go_wp2_with (at_builtin; refine wpList_append_one _ rfl _ _ 27 rfl 31 i0 (.agg #[.int .i64 0, .int .i64 0]) 2 16 Try.underlying27 HI.out HZ0.out HZ1.out HZ2.out rfl (by decide) u7 l0.length _ rfl (World.ownsRow.alloc HROW.out _) ⟨W4.heap.size, 0, none⟩ 1 [.int .i64 (n : Int), .int .i64 (d : Int)] rfl rfl (fd_new _ _ _ _) (fd_one _ _) hn1 hn2 ?_; intro g9 cap9 w10 hown10 hgr10 hmv10; have HTT := Lib.hid (HL4.out.founds.app HL4.out.below hown10 hgr10 hmv10); clear hown10 hgr10 hmv10)
          go_roundw
          case rel => exact ⟨x, n, d + 1, _, by omega, hd1, by go_num, rfl, HTT.out.1, HTT.out.2, by rw [← HGO3.out]; simp, by simp; omega, by omega⟩
          case measure => simp [intOf]; omega
        · have HGO3 := Lib.hid (show l0 ++ allL (bt s) p most window x best = full by rw [← HGO.out, if_neg hn])
          have hdn : decide (best < n) = false := by simpa using hn
          clear HGO
          go_wp2_with fail
          go_roundw
          case rel => exact ⟨x, best, d + 1, l0, by omega, hd1, by go_num, rfl, HL4.out.founds, HL4.out.below, HGO3.out, hll, hlm⟩
          case measure => simp [intOf]; omega
        -- END go
      · as_aux_lemma =>
        -- BEGIN no
        have HE := Lib.hid (show l0 = full by
          have := HL.out.eq
          rw [allL, if_neg (by rw [show ((p - x : Nat) : Int) = (d : Int) from by omega]; exact hw), List.append_nil] at this
          exact this)
        have hw1 : decide ((d : Int) ≤ window) = false := by simpa using hw
        go_wp2_with fail
        go_ret
        exact ⟨_, rfl, by rw [← HE.out]; exact HL.out.founds, HL.out.below⟩
        -- END no
end Go.Proofs.Ytakbocaemlgbaaa.Bs
