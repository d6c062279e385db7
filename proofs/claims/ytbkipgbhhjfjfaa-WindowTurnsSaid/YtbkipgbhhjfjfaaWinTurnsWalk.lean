/-
  The walk of the statement WindowTurns: for every text, distance and number it returns true, and writes nothing that was there.
-/
import Derived.Test.YtbkipgbhhjfjfaaWinSpeaks
namespace Go.Proofs.Ytbkipgbhhjfjfaa.Wnd
open Go.RowKit
theorem copied_keep (l : List UInt8) (d m n j : Nat) (h : m ≤ n) (hj : j < l.length + m) : (copied l d n)[j]? = (copied l d m)[j]? := by
  induction n with
  | zero => rw [show m = 0 from by omega]
  | succ n ih =>
    by_cases e : m = n + 1
    · rw [e]
    · rw [copied, List.getElem?_append_left (by rw [copied_length]; omega)]
      exact ih (by omega)
theorem copied_turns (l : List UInt8) (d n i : Nat) (h1 : 1 ≤ d) (h2 : d ≤ l.length) (hi : l.length ≤ i) (hn : i < l.length + n) : (copied l d n)[i]? = (copied l d n)[i - d]? := by
  obtain ⟨m, rfl⟩ : ∃ m, i = l.length + m := ⟨i - l.length, by omega⟩
  have hl := copied_length l d m
  rw [copied_keep l d (m + 1) n _ (by omega) (by omega), copied_keep l d m n _ (by omega) (by omega), copied, List.getElem?_append_right (by omega), hl]
  have hlt : l.length + m - d < (copied l d m).length := by omega
  simp [List.getD, hlt]
theorem copied_head (l : List UInt8) (d n : Nat) : (copied l d n).take l.length = l := by
  apply List.ext_getElem?
  intro j
  by_cases h : j < l.length
  · rw [List.getElem?_take_of_lt h, copied_keep l d 0 n j (by omega) (by omega)]; rfl
  · rw [List.getElem?_eq_none (by simp; omega), List.getElem?_eq_none (by omega)]
theorem take_snoc (s : ByteArray) (k : Nat) (h : k < s.size) : s.data.toList.take (k + 1) = s.data.toList.take k ++ [s[k]] := by
  rw [List.take_succ_eq_append_getElem (by simpa using h)]; rfl
theorem below_all {w w1 W w' : World} {B most : Nat} {l : List UInt8} {o : Obj} (h : Below w.heap.size w w1) (hB : w1.heap.size = B) (hW : w1.alloc o = W) (hG : Grew W B most (.slice none 0 0) l w') : Below w.heap.size w w' := by
  subst hB hW
  exact h.trans (hG.fresh.mono h.size)
set_option maxHeartbeats 1000000 in
theorem turns_walk (s : ByteArray) (dist num : Nat) (w : World) (hs : s.size ≤ maxLen) (hd : dist < 65536) (hn : num < 65536) :
    Calls Try.prog 6 #[.string s, .int .u16 (dist : Int), .int .u16 (num : Int)] w fun e w' => e = .returned (.bool true) ∧ Below w.heap.size w w' := by
  have hs' := hs
  unfold maxLen at hs'
  go_enter Try.func6, Try.ntmps6
  go_wp2_with fail
  refine (speaks_any _).mono ?_
  rintro e w1 ⟨rfl, hb1⟩
  go_wp2_with fail
  all_goals
    first
      | (have hh : 60 < (s.size : Int) := by assumption
         have ht : (s.extract 0 60).size ≤ 60 := by simp; omega
         generalize s.extract 0 60 = t at *)
      | (have hh : (s.size : Int) ≤ 60 := by assumption
         have ht : s.size ≤ 60 := by omega
         generalize s = t at *)
    refine (new_any 1000 _).mono ?_
    rintro e w2 ⟨rfl, hw2⟩
    have G0 : Grew (w1.alloc (.cells #[.slice none 0 0, .int .i64 (((1000 : Int).toNat : Nat) : Int)] 47)) w1.heap.size 1000 (.slice none 0 0) (t.data.toList.take 0) w2 := by rw [hw2]; exact Grew.refl (win_new w1 1000)
    have H0 := Lib.hid G0
    clear hw2 G0 hh
    generalize hW : w1.alloc (.cells #[.slice none 0 0, .int .i64 (((1000 : Int).toNat : Nat) : Int)] 47) = W at *
    have HW := Lib.hid hW
    clear hW
    generalize hB : w1.heap.size = B at *
    have HB := Lib.hid hB
    clear hB
    go_wp2_with fail
    go_loopw [8] (fun i wr => ∃ k : Nat, k ≤ t.size ∧ i = .int .i64 k ∧ Grew W B 1000 (.slice none 0 0) (t.data.toList.take k) wr) (fun i _ => t.size - (intOf i).toNat)
    case atStart => exact ⟨0, by omega, rfl, H0.out⟩
    case round =>
      obtain ⟨k, hk, rfl, hgrew⟩ := hrel
      by_cases hlt : k < t.size
      · have hsn := take_snoc t k hlt
        have HS := Lib.hid hsn
        have HGr := Lib.hid hgrew
        have hlen : (t.data.toList.take k).length = k := by simp; omega
        have HLN := Lib.hid hlen
        obtain ⟨v1, a1, f1, m1⟩ := hgrew
        have A1 := Lib.hid a1
        clear hsn hlen a1
        go_wp2_with fail
        refine (put_yes A1.out (by rw [HLN.out]; omega) (by decide) (by rw [HLN.out]; omega) _).mono ?_
        rintro e w3 ⟨rfl, g1⟩
        have H1 := Lib.hid (Grew.trans f1 m1 g1)
        clear g1 f1 m1
        go_wp2
        go_roundw
        case rel => exact ⟨k + 1, by omega, by go_num, by rw [HS.out]; exact H1.out⟩
        case measure => simp [intOf]; omega
      · obtain rfl : k = t.size := by omega
        have htk : t.data.toList.take t.size = t.data.toList := List.take_of_length_le (by simp)
        rw [htk] at hgrew
        clear htk
        have HGr := Lib.hid hgrew
        clear hgrew
        go_wp2_with fail
        obtain ⟨d, hdd, hd70⟩ : ∃ d : Nat, ((dist : Int) % 70) = (d : Int) ∧ d < 70 := ⟨dist % 70, by omega, by omega⟩
        obtain ⟨n, hnn, hn400⟩ : ∃ n : Nat, ((num : Int) % 400) = (n : Int) ∧ n < 400 := ⟨num % 400, by omega, by omega⟩
        rw [hdd, hnn]
        clear hdd hnn hk hlt
        obtain ⟨v1, a1, f1, m1⟩ := HGr.out
        have hlen : t.data.toList.length = t.size := by simp
        have HLN := Lib.hid hlen
        have A1 := Lib.hid a1
        clear a1 hlen
        by_cases hfar : d < 1 ∨ t.size < d
        · have hth : there (d : Int) t.data.toList.length = false := by rw [HLN.out]; simp [there]; omega
          refine (copy_far A1.out d n hth).mono ?_
          rintro e w4 ⟨rfl, q, hq⟩
          have A2 := Lib.hid (show Win w4 B v1 1000 t.data.toList from by rw [hq]; exact A1.out)
          have G2 := Lib.hid (show Grew W B 1000 (.slice none 0 0) t.data.toList w4 from by rw [hq]; exact ⟨v1, A1.out, f1.drewN q, m1⟩)
          clear hq hth f1 m1
          rcases hfar with hf | hf
          all_goals
            go_wp2_with fail
            refine (text_any A2.out).mono ?_
            rintro e w5 ⟨rfl, rfl⟩
            go_wp2
            go_ret
            exact ⟨ret_bool rfl, below_all hb1 HB.out HW.out G2.out⟩
        · have hd1 : 1 ≤ d := by omega
          have hd2 : d ≤ t.size := by omega
          clear hfar
          refine (copy_yes A1.out d n hd1 (by rw [HLN.out]; omega) (by rw [HLN.out]; omega) (by decide) (by rw [HLN.out]; omega)).mono ?_
          rintro e w4 ⟨rfl, g1⟩
          have H1 := Lib.hid (Grew.trans f1 m1 g1)
          clear g1 f1 m1
          obtain ⟨v2, a2, _, _⟩ := H1.out
          have A2 := Lib.hid a2
          clear a2
          have hul := copied_length t.data.toList d n
          rw [HLN.out] at hul
          have htn : ∀ i, t.size ≤ i → i < t.size + n → (copied t.data.toList d n)[i]? = (copied t.data.toList d n)[i - d]? := fun i h1 h2 => copied_turns _ d n i hd1 (by rw [HLN.out]; omega) (by rw [HLN.out]; omega) (by rw [HLN.out]; omega)
          have hhd := copied_head t.data.toList d n
          rw [HLN.out] at hhd
          have HHD := Lib.hid hhd
          have HTN := Lib.hid htn
          have HUL := Lib.hid hul
          clear hhd htn hul
          go_wp2_with fail
          refine (text_any A2.out).mono ?_
          rintro e w5 ⟨rfl, rfl⟩
          generalize copied t.data.toList d n = u at *
          obtain ⟨U, hU⟩ : ∃ U : ByteArray, U = ⟨u.toArray⟩ := ⟨_, rfl⟩
          rw [← hU]
          have hUd : U.data.toList = u := by rw [hU]
          have hUs : U.size = t.size + n := by rw [← HUL.out, ← hUd]; simp
          have HUd := Lib.hid hUd
          have HUs := Lib.hid hUs
          have hU1 : U.size ≤ 460 := by omega
          have hU2 : t.size ≤ U.size := by omega
          clear hU hUd hUs
          go_wp2_with fail
          go_loopw [12] (fun i wr => ∃ k : Nat, t.size ≤ k ∧ k ≤ U.size ∧ i = .int .i64 k ∧ ∃ q, wr = w4.drewN q) (fun i _ => U.size - (intOf i).toNat)
          case atStart => exact ⟨t.size, by omega, by omega, rfl, 0, rfl⟩
          case round =>
            obtain ⟨k, hk1, hk2, rfl, q, rfl⟩ := hrel
            by_cases hlt : k < U.size
            · have heq : U[k] = U[k - d] := by
                have h1 := HTN.out k hk1 (by have := HUs.out; omega)
                rw [← HUd.out] at h1
                rw [List.getElem?_eq_getElem (by simp; omega), List.getElem?_eq_getElem (by simp; omega)] at h1
                exact Option.some.inj h1
              have hbne : ((U[k].toNat : Int) != (U[k - d].toNat : Int)) = false := by rw [heq]; simp
              clear heq
              have e1 : (0 : Int) ≤ (k : Int) - (d : Int) := by omega
              have e2 : (k : Int) - (d : Int) < (U.size : Int) := by omega
              have e3 : ((k : Int) - (d : Int)).toNat = k - d := by omega
              have e4 : IntKind.i64.wrap ((k : Int) - (d : Int)) = (k : Int) - (d : Int) := IntWalk.i64_in _ (by omega)
              have e5 : k - d < U.size := by omega
              have e6 : d ≤ k := by omega
              have e7 : (d : Int) ≤ (k : Int) := by omega
              go_wp2
              go_quiet (fail)
              clear e4
              go_wp2
              go_roundw
              case rel => exact ⟨k + 1, by omega, by omega, by go_num, _, rfl⟩
              case measure => simp [intOf]; omega
            · obtain rfl : k = U.size := by omega
              have htk : (U.extract 0 t.size).toList = t.toList := by
                rw [ByteArray.toList_eq, ByteArray.toList_eq, ← HHD.out, ← HUd.out]
                simp
              have hlen2 : ((U.size : Int) == (t.size : Int) + (n : Int)) = true := by have := HUs.out; rw [beq_iff_eq]; omega
              have HTK := Lib.hid htk
              clear htk
              go_wp2
              go_ret
              exact ⟨ret_bool (by rw [HTK.out]; simp), below_drewN (below_all hb1 HB.out HW.out H1.out) q⟩
end Go.Proofs.Ytbkipgbhhjfjfaa.Wnd
namespace Go.Proofs.Ytbkipgbhhjfjfaa.Wnd
open Go.RowKit
theorem turns_at (s : ByteArray) (c d : Int) (hs : s.size ≤ maxLen) (hc : (Lit.int .u16 c).wf = true) (hd : (Lit.int .u16 d).wf = true) (w : World) :
    Calls Try.prog 6 #[.string s, .int .u16 c, .int .u16 d] w fun e w' => e = .returned (.bool true) ∧ Below w.heap.size w w' := by
  have hx : 0 ≤ c ∧ c ≤ 65535 := by simpa [Lit.wf, IntKind.min, IntKind.max, IntKind.signed, IntKind.bits] using hc
  have hy : 0 ≤ d ∧ d ≤ 65535 := by simpa [Lit.wf, IntKind.min, IntKind.max, IntKind.signed, IntKind.bits] using hd
  obtain ⟨n, rfl⟩ := Int.eq_ofNat_of_zero_le hx.1
  obtain ⟨m, rfl⟩ := Int.eq_ofNat_of_zero_le hy.1
  exact turns_walk s n m w hs (by omega) (by omega)
end Go.Proofs.Ytbkipgbhhjfjfaa.Wnd
