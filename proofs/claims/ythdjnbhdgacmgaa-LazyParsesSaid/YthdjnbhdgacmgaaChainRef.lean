/-
  The document's answer for layer 7: contracts of Matches and At.
-/
import Derived.Test.YthdjnbhdgacmgaaChainNext
namespace Go.Proofs.Ythdjnbhdgacmgaa.Ch
open Go.RowKit Go.Maps
open Mt
set_option maxHeartbeats 2000000 in
theorem matches_any (s : ByteArray) (p d : Nat) (hp : p ≤ s.size) (hd : d ≤ p) (hs : s.size ≤ 1000000000000) (w : World) :
    Calls Try.prog 77 #[.string s, .int .i64 (p : Int), .int .i64 (d : Int)] w fun x w' => x = .returned (.int .i64 (mat (bt s) p (p - d) 0 (min (s.size - p) 273) : Int)) ∧ ∃ n, w' = w.drewN n := by
  obtain ⟨most, hmost⟩ : ∃ most, most = min (s.size - p) 273 := ⟨_, rfl⟩
  rw [← hmost]
  have hm1 : p + most ≤ s.size := by omega
  have hm2 : most ≤ 273 := by omega
  have hm3 : most = 273 ∨ p + most = s.size := by omega
  have HM3 := Lib.hid hm3
  clear hmost hm3
  go_enter Try.func77, Try.ntmps77
  go_wp2
  go_loopw [7] (fun i wr => ∃ k n : Nat, k ≤ most ∧ mat (bt s) p (p - d) k (most - k) = mat (bt s) p (p - d) 0 most ∧ i = .int .i64 k ∧ wr = w.drewN n) (fun i _ => most - (intOf i).toNat)
  case atStart => exact ⟨0, 0, by omega, rfl, rfl, rfl⟩
  case round =>
    obtain ⟨k, n, hk, hmat, rfl, rfl⟩ := hrel
    have HM := Lib.hid hmat
    clear hmat
    have e4 : IntKind.i64.wrap ((p : Int) + (k : Int)) = (p : Int) + (k : Int) := IntWalk.i64_in _ (by omega)
    by_cases hlt : k < most
    · have hpk : p + k < s.size := by omega
      have hqk : p + k - d < s.size := by omega
      have e1 : (0 : Int) ≤ (p : Int) + (k : Int) := by omega
      have e2 : (p : Int) + (k : Int) < (s.size : Int) := by omega
      have e3 : ((p : Int) + (k : Int)).toNat = p + k := by omega
      have d1 : (0 : Int) ≤ (p : Int) + (k : Int) - (d : Int) := by omega
      have d1' : (d : Int) ≤ (p : Int) + (k : Int) := by omega
      have d2 : (p : Int) + (k : Int) - (d : Int) < (s.size : Int) := by omega
      have d3 : ((p : Int) + (k : Int) - (d : Int)).toNat = p + k - d := by omega
      have d4 : IntKind.i64.wrap ((p : Int) + (k : Int) - (d : Int)) = (p : Int) + (k : Int) - (d : Int) := IntWalk.i64_in _ (by omega)
      have hlt1 : decide ((p : Int) + (k : Int) < (s.size : Int)) = true := by simpa using e2
      have hlt2 : (k : Int) < 273 := by omega
      by_cases he : bt s (p + k) = bt s (p - d + k)
      · have HE : Hid (mat (bt s) p (p - d) (k + 1) (most - (k + 1)) = mat (bt s) p (p - d) 0 most) := Lib.hid (by
          rw [← HM.out, show most - k = (most - (k + 1)) + 1 from by omega, mat, if_pos he])
        have hbe : ((s[p + k].toNat : Int) == (s[p + k - d].toNat : Int)) = true := by
          rw [bt_at, bt_at, he, show p + k - d = p - d + k from by omega]; simp
        clear he HM
        go_wp2
        go_quiet (fail)
        clear e4 d4
        go_wp2
        go_roundw
        case rel => exact ⟨k + 1, _, by omega, HE.out, by go_num, rfl⟩
        case measure => simp [intOf]; omega
      · have HE : Hid (mat (bt s) p (p - d) 0 most = k) := Lib.hid (by
          rw [← HM.out, show most - k = (most - (k + 1)) + 1 from by omega, mat, if_neg he])
        have hbe : ((s[p + k].toNat : Int) == (s[p + k - d].toNat : Int)) = false := by
          rw [bt_at, bt_at, beq_eq_false_iff_ne, show p + k - d = p - d + k from by omega]; omega
        clear he HM
        go_wp2
        go_quiet (fail)
        clear e4 d4
        go_wp2
        go_ret
        exact ⟨ret_num (by rw [HE.out]), _, by rw [World.drewN_drewN]⟩
    · obtain rfl : k = most := by omega
      have HE : Hid (mat (bt s) p (p - d) 0 k = k) := Lib.hid (by rw [← HM.out, Nat.sub_self, mat])
      clear HM
      by_cases hz : p + k < s.size
      · have hz1 : decide ((p : Int) + (k : Int) < (s.size : Int)) = true := by simp; omega
        have hz2 : k = 273 := by rcases HM3.out with h | h <;> omega
        have hz3 : ¬ ((k : Int) < 273) := by omega
        have hz4 : decide ((k : Int) < 273) = false := by simpa using hz3
        clear hz2
        go_wp2
        go_quiet (fail)
        clear e4
        go_wp2
        go_ret
        exact ⟨ret_num (by rw [HE.out]), _, by rw [World.drewN_drewN]⟩
      · have hz1 : decide ((p : Int) + (k : Int) < (s.size : Int)) = false := by simp; omega
        go_wp2
        go_quiet (fail)
        clear e4
        go_wp2
        go_ret
        exact ⟨ret_num (by rw [HE.out]), _, by rw [World.drewN_drewN]⟩
theorem three_toList {s : ByteArray} {q : Nat} (h : q + 3 ≤ s.size) : (s.extract q (q + 3)).toList = [s[q], s[q + 1], s[q + 2]] := by
  rw [ByteArray.toList_eq]
  have e : (s.extract q (q + 3)).data.toList = (s.data.toList.drop q).take 3 := by
    simp [ByteArray.data_extract]
  rw [e, List.drop_eq_getElem_cons (by simp; omega), List.drop_eq_getElem_cons (by simp; omega), List.drop_eq_getElem_cons (by simp; omega)]
  rfl
theorem three_ne {s : ByteArray} {p q : Nat} (hp : p + 3 ≤ s.size) (hq : q + 3 ≤ s.size) : ((s.extract p (p + 3)).toList == (s.extract q (q + 3)).toList) = heads (bt s) p q := by
  rw [three_toList hp, three_toList hq]
  have hb : ∀ {i j : Nat} (hi : i < s.size) (hj : j < s.size), (s[i] == s[j]) = (bt s i == bt s j) := fun {i j} hi hj => by
    rw [← bt_at hi, ← bt_at hj, Bool.eq_iff_iff, beq_iff_eq, beq_iff_eq]
    exact ⟨fun h => by rw [h], fun h => UInt8.toNat_inj.1 h⟩
  unfold heads
  rw [← hb (by omega) (by omega), ← hb (by omega) (by omega), ← hb (by omega) (by omega)]
  simp
theorem infoR : (Try.prog.info? 54).map (fun i => (i.zero, i.size, i.bytes)) = some (some (.agg #[.int .i64 0, .int .i64 0]), 2, 16) := by kernel_rfl
/-- Within the loop of At. -/
structure RefAt (w0 : World) (b : Nat → Nat) (p most : Nat) (ok : Bool) (window cut : Int) (full : List (Nat × Nat)) (x best seen : Nat) (v : Value) (w : World) (l : List (Nat × Nat)) : Prop where
  founds : Founds 54 w0 w v l
  below : Below w0.heap.size w0 w
  eq : l ++ refL b p most ok window cut x best seen = full
  len : l.length ≤ best
  le : best ≤ most
  seen : seen + x ≤ p
theorem RefAt.news {w0 w w' : World} {b : Nat → Nat} {p most x best seen : Nat} {ok : Bool} {window cut : Int} {full l : List (Nat × Nat)} {v : Value} (h : RefAt w0 b p most ok window cut full x best seen v w l) (hb : Below w.heap.size w w') : RefAt w0 b p most ok window cut full x best seen v w' l :=
  ⟨h.founds.below hb, h.below.trans (hb.mono h.below.size), h.eq, h.len, h.le, h.seen⟩
/-- What At hands back. -/
def RefTo (w : World) (l : List (Nat × Nat)) (x : Ending) (w' : World) : Prop := ∃ v, x = .returned v ∧ Founds 54 w w' v l ∧ Below w.heap.size w w'
set_option maxRecDepth 100000 in
set_option maxHeartbeats 4000000 in
theorem at_any (s : ByteArray) (p : Nat) (window cut : Int) (hp : p ≤ s.size) (hs : s.size ≤ 1000000000) (w : World) :
    Calls Try.prog 50 #[.string s, .int .i64 (p : Int), .int .i64 window, .int .i64 cut] w (RefTo w (foundL s window cut p)) := by
  obtain ⟨i0, hi, hz0, hz1, hz2⟩ := info_parts infoR
  have HI := Lib.hid hi
  have HZ0 := Lib.hid hz0
  have HZ1 := Lib.hid hz1
  have HZ2 := Lib.hid hz2
  have HMA := Lib.hid (fun d (hd : d ≤ p) W => matches_any s p d hp hd (by omega) W)
  have hm2 : min (s.size - p) 273 ≤ 273 := by omega
  have HL0 : Hid (RefAt w (bt s) p (min (s.size - p) 273) (decide (p + 3 ≤ s.size)) window cut (foundL s window cut p) p 0 0 (.slice none 0 0) w []) := Lib.hid ⟨Founds.nil _ _ _, Below.refl _ _, rfl, Nat.le_refl _, Nat.zero_le _, by omega⟩
  clear hi hz0 hz1 hz2
  generalize foundL s window cut p = full at *
  generalize min (s.size - p) 273 = most at *
  obtain ⟨ok, hok⟩ : ∃ ok, ok = decide (p + 3 ≤ s.size) := ⟨_, rfl⟩
  rw [← hok] at HL0
  have HOK := Lib.hid hok
  clear hok
  go_enter Try.func50, Try.ntmps50
  go_wp2_with fail
  go_loopw [9, 10, 11, 12] (fun v9 v10 v11 v12 wr => ∃ (x best seen d : Nat) (l0 : List (Nat × Nat)), x ≤ p ∧ d = p + 1 - x ∧ v12 = .int .i64 d ∧ v10 = .int .i64 best ∧ v11 = .int .i64 seen ∧ RefAt w (bt s) p most ok window cut full x best seen v9 wr l0) (fun _ _ _ v12 _ => p + 1 - (intOf v12).toNat)
  case atStart => exact ⟨p, 0, 0, 1, [], Nat.le_refl _, by omega, rfl, rfl, rfl, HL0.out⟩
  case round =>
    clear HL0
    obtain ⟨x, best, seen, d, l0, hx, hd, rfl, rfl, rfl, hL⟩ := hrel
    have HL := Lib.hid hL
    have hlm := hL.le
    have hll := hL.len
    have hse := hL.seen
    have HD := Lib.hid hd
    clear hL hd
    cases x with
    | zero =>
      as_aux_lemma =>
      -- BEGIN z
      have HE := Lib.hid (show l0 = full by have := HL.out.eq; rw [refL, List.append_nil] at this; exact this)
      have hdl : decide (d ≤ p) = false := by have := HD.out; simp; omega
      go_wp2_with fail
      go_ret
      exact ⟨_, rfl, by rw [← HE.out]; exact HL.out.founds, HL.out.below⟩
      -- END z
    | succ x =>
      have hdx : d + x = p := by have := HD.out; omega
      have hdl : decide (d ≤ p) = true := by simp; omega
      by_cases hc : (d : Int) ≤ window ∧ (seen : Int) < cut
      · obtain ⟨hw, hcu⟩ := hc
        have hgo := HL.out.eq
        rw [refL, if_pos (by rw [show ((p - x : Nat) : Int) = (d : Int) from by omega]; exact ⟨hw, hcu⟩), show p - x = d from by omega] at hgo
        have HGO := Lib.hid hgo
        have hw1 : decide ((d : Int) ≤ window) = true := by simpa using hw
        have hw2 : decide ((seen : Int) < cut) = true := by simpa using hcu
        have a1 : IntKind.i64.wrap ((p : Int) + 3) = (p : Int) + 3 := IntWalk.i64_in _ (by omega)
        have a2 : IntKind.i64.wrap ((p : Int) - (d : Int)) = (p : Int) - (d : Int) := IntWalk.i64_in _ (by omega)
        have a3 : IntKind.i64.wrap ((p : Int) - (d : Int) + 3) = (p : Int) - (d : Int) + 3 := IntWalk.i64_in _ (by omega)
        clear hgo hw hcu
        have hd1 : d + 1 = p + 1 - x := by omega
        by_cases h3 : p + 3 ≤ s.size
        · have hokt : ok = true := by rw [HOK.out]; simpa using h3
          subst hokt
          have b1 : (0 : Int) ≤ (p : Int) + 3 := by omega
          have b2 : (p : Int) + 3 ≤ (s.size : Int) := by omega
          have b3 : ((p : Int) + 3).toNat = p + 3 := by omega
          have b4 : (0 : Int) ≤ (p : Int) - (d : Int) := by omega
          have b4' : (d : Int) ≤ (p : Int) := by omega
          have b5 : (0 : Int) ≤ (p : Int) - (d : Int) + 3 := by omega
          have b6 : (p : Int) - (d : Int) + 3 ≤ (s.size : Int) := by omega
          have b7 : ((p : Int) - (d : Int)).toNat = x := by omega
          have b8 : ((p : Int) - (d : Int) + 3).toNat = x + 3 := by omega
          have b9 : (p : Int) - (d : Int) ≤ (p : Int) - (d : Int) + 3 := by omega
          have b10 : decide ((s.size : Int) < (p : Int) + 3) = false := by simp; omega
          have hneq := three_ne (s := s) (p := p) (q := x) h3 (by omega)
          cases hh : heads (bt s) p x with
          | false =>
            as_aux_lemma =>
            -- BEGIN other
            rw [hh] at hneq
            have HGO2 := Lib.hid (show l0 ++ refL (bt s) p most true window cut x best seen = full by rw [← HGO.out, if_neg (by rw [hh]; simp)])
            clear HGO hh
            go_wp2_with fail
            go_quiet (fail)
            clear a1 a2 a3 hneq
            go_wp2_with fail
            go_roundw
            case rel => exact ⟨x, best, seen, d + 1, l0, by omega, hd1, by go_num, rfl, rfl, (HL.out.news (below_drewN (Below.refl _ _) _)).founds, (HL.out.news (below_drewN (Below.refl _ _) _)).below, HGO2.out, hll, hlm, by omega⟩
            case measure => simp [intOf]; omega
            -- END other
          | true =>
            -- BEGIN same
            rw [hh] at hneq
            have hgo := HGO.out
            rw [if_pos ⟨rfl, hh⟩] at hgo
            have HGO2 := Lib.hid hgo
            have HM := Lib.hid (HMA.out d (by omega))
            rw [show p - d = x from by omega] at HM
            clear HGO hh hgo
            have hml := mat_le (bt s) p x most 0
            rw [Nat.zero_add] at hml
            generalize mat (bt s) p x 0 most = n at *
            go_wp2_with fail
            go_quiet (fail)
            clear a1 a2 a3 hneq
            go_wp2_with fail
            refine (HM.out _).mono ?_
            rintro y w4 ⟨rfl, n4, rfl⟩
            have HL4 := Lib.hid (HL.out.news (below_drewN (below_drewN (Below.refl _ _) nq) n4))
            clear HM HL b1 b2 b3 b4 b4' b5 b6 b7 b8 b9 b10
            generalize (wr.drewN nq).drewN n4 = W4 at *
            by_cases hn : best < n
            · as_aux_lemma =>
              have HGO3 := Lib.hid (show l0 ++ (n, d) :: refL (bt s) p most true window cut x n (seen + 1) = full by rw [← HGO2.out, if_pos hn])
              have hn1 : l0.length + 1 ≤ maxLen := by unfold maxLen; omega
              have hn2 : (l0.length + 1) * 16 ≤ 140737488355328 := by omega
              have HROW := Lib.hid HL4.out.founds.row
              clear HGO2
              go_wp2_with (at_builtin; refine wpList_append_one _ rfl _ _ 101 rfl 54 i0 (.agg #[.int .i64 0, .int .i64 0]) 2 16 Try.underlying101 HI.out HZ0.out HZ1.out HZ2.out rfl (by decide) u9 l0.length _ rfl (World.ownsRow.alloc HROW.out _) ⟨W4.heap.size, 0, none⟩ 1 [.int .i64 (n : Int), .int .i64 (d : Int)] rfl rfl (fd_new _ _ _ _) (fd_one _ _) hn1 hn2 ?_; intro g9 cap9 w10 hown10 hgr10 hmv10; have HTT := Lib.hid (HL4.out.founds.app HL4.out.below hown10 hgr10 hmv10); clear hown10 hgr10 hmv10)
              go_roundw
              case rel => exact ⟨x, n, seen + 1, d + 1, _, by omega, hd1, by go_num, rfl, by go_num, HTT.out.1, HTT.out.2, by rw [← HGO3.out]; simp, by simp; omega, by omega, by omega⟩
              case measure => simp [intOf]; omega
            · as_aux_lemma =>
              have HGO3 := Lib.hid (show l0 ++ refL (bt s) p most true window cut x best (seen + 1) = full by rw [← HGO2.out, if_neg hn])
              have hdn : decide (best < n) = false := by simpa using hn
              clear HGO2
              go_wp2_with fail
              go_roundw
              case rel => exact ⟨x, best, seen + 1, d + 1, l0, by omega, hd1, by go_num, rfl, by go_num, HL4.out.founds, HL4.out.below, HGO3.out, hll, hlm, by omega⟩
              case measure => simp [intOf]; omega
            -- END same
        · have hokf : ok = false := by rw [HOK.out]; simpa using h3
          subst hokf
          as_aux_lemma =>
          -- BEGIN short
          have b10 : decide ((s.size : Int) < (p : Int) + 3) = true := by simp; omega
          have HGO2 := Lib.hid (show l0 ++ refL (bt s) p most false window cut x best seen = full by rw [← HGO.out, if_neg (by simp)])
          clear HGO h3
          go_wp2_with fail
          go_quiet (fail)
          clear a1 a2 a3
          go_wp2_with fail
          go_roundw
          case rel => exact ⟨x, best, seen, d + 1, l0, by omega, hd1, by go_num, rfl, rfl, (HL.out.news (below_drewN (Below.refl _ _) _)).founds, (HL.out.news (below_drewN (Below.refl _ _) _)).below, HGO2.out, hll, hlm, by omega⟩
          case measure => simp [intOf]; omega
          -- END short
      · as_aux_lemma =>
        -- BEGIN no
        have HE := Lib.hid (show l0 = full by
          have := HL.out.eq
          rw [refL, if_neg (by rw [show ((p - x : Nat) : Int) = (d : Int) from by omega]; exact hc), List.append_nil] at this
          exact this)
        by_cases hw : (d : Int) ≤ window
        · have hw1 : decide ((d : Int) ≤ window) = true := by simpa using hw
          have hw2 : decide ((seen : Int) < cut) = false := by simp; omega
          clear hc
          go_wp2_with fail
          go_ret
          exact ⟨_, rfl, by rw [← HE.out]; exact HL.out.founds, HL.out.below⟩
        · have hw1 : decide ((d : Int) ≤ window) = false := by simpa using hw
          clear hc
          go_wp2_with fail
          go_ret
          exact ⟨_, rfl, by rw [← HE.out]; exact HL.out.founds, HL.out.below⟩
        -- END no
end Go.Proofs.Ythdjnbhdgacmgaa.Ch
