/-
  Package freq: a set in memory; contracts of a set's Add and Len, of others, PutAny and GetAny; and of none.
-/
import Derived.Test.YteacmcckhjabmaaFreqPut
namespace Go.Proofs.Yteacmcckhjabmaa.Fq
open Go.RowKit
open Rc (Enc Dec EncAt DecAt)
/-- How many signs below k are in a set, and how many are not. -/
def cnt (N : Nat → Bool) : Nat → Nat
  | 0 => 0
  | k + 1 => if N k then cnt N k + 1 else cnt N k
def free (N : Nat → Bool) : Nat → Nat
  | 0 => 0
  | k + 1 => if N k then free N k else free N k + 1
theorem cnt_free (N : Nat → Bool) : ∀ k, cnt N k + free N k = k
  | 0 => rfl
  | k + 1 => by
    have := cnt_free N k
    simp only [cnt, free]
    split <;> omega
theorem free_mono (N : Nat → Bool) : ∀ (j k : Nat), j ≤ k → free N j ≤ free N k
  | j, 0, h => by obtain rfl : j = 0 := by omega
                  exact Nat.le_refl _
  | j, k + 1, h => by
    by_cases e : j = k + 1
    · rw [e]; exact Nat.le_refl _
    · have := free_mono N j k (by omega)
      simp only [free]
      split <;> omega
theorem free_lt {N : Nat → Bool} {s k : Nat} (hs : N s = false) (hk : s < k) : free N s + 1 ≤ free N k := by
  have h := free_mono N (s + 1) k hk
  have e : free N (s + 1) = free N s + 1 := by simp [free, hs]
  omega
theorem free_inj {N : Nat → Bool} {s t : Nat} (hs : N s = false) (ht : N t = false) (h : free N s = free N t) : s = t := by
  rcases Nat.lt_trichotomy s t with h1 | h1 | h1
  · have := free_lt hs h1; omega
  · exact h1
  · have := free_lt ht h1; omega
/-- One sign more. -/
def addN (N : Nat → Bool) (s : Nat) : Nat → Bool := fun k => N k || k == s
theorem addN_in {N : Nat → Bool} {s : Nat} (h : N s = true) : addN N s = N := by
  funext k
  unfold addN
  by_cases e : k = s
  · subst e; simp [h]
  · simp [e]
theorem cnt_add {N : Nat → Bool} {s : Nat} (h : N s = false) : ∀ k, cnt (addN N s) k = cnt N k + (if s < k then 1 else 0)
  | 0 => rfl
  | k + 1 => by
    have ih := cnt_add h k
    by_cases e : k = s
    · subst e
      have e1 : addN N k k = true := by simp [addN]
      rw [if_neg (show ¬ k < k by omega)] at ih
      simp only [cnt, e1, h, if_true, ih, if_pos (Nat.lt_succ_self k)]
      simp
    · have e1 : addN N s k = N k := by simp [addN, e]
      simp only [cnt, e1, ih]
      by_cases h1 : s < k
      · rw [if_pos h1, if_pos (show s < k + 1 by omega)]; split <;> omega
      · rw [if_neg h1, if_neg (show ¬ s < k + 1 by omega)]; split <;> omega
def SetCells (arr : Array Value) (N : Nat → Bool) : Prop := arr.size = 257 ∧ (∀ s, s < 256 → arr[s]? = some (.bool (N s))) ∧ arr[256]? = some (.int .i64 ((cnt N 256 : Nat) : Int))
/-- Block b is a set of these signs, and belongs to c. -/
def SetAt (w : World) (O : Paint) (c b : Nat) (N : Nat → Bool) : Prop := ∃ arr, Blk w O c b (.cells arr 124 (0, 0)) ∧ SetCells arr N
theorem SetAt.step {cs : List Nat} {w w' : World} {O O' : Paint} {c b : Nat} {N : Nat → Bool} (h : SetAt w O c b N) (hs : Step cs w O w' O') (hc : c ∉ cs) : SetAt w' O' c b N := by
  obtain ⟨arr, h1, h2⟩ := h
  exact ⟨arr, h1.step hs hc, h2⟩
theorem SetAt.lt {w : World} {O : Paint} {c b : Nat} {N : Nat → Bool} (h : SetAt w O c b N) : b < w.heap.size := by
  obtain ⟨arr, h1, _⟩ := h
  exact h1.lt
theorem SetAt.not {w : World} {O : Paint} {c b : Nat} {N : Nat → Bool} (h : SetAt w O c b N) : NotAt w (.pointer (some ⟨b, 0, none⟩)) N := by
  obtain ⟨arr, h1, h2⟩ := h
  exact .inr ⟨b, rfl, h1.lt, fun s hs => by rw [h1.cell]; exact h2.2.1 s hs⟩
theorem set_len {w : World} {O : Paint} {c b : Nat} {N : Nat → Bool} (h : SetAt w O c b N) :
    Calls Try.prog 94 #[.pointer (some ⟨b, 0, none⟩)] w fun x w' => x = .returned (.int .i64 ((cnt N 256 : Nat) : Int)) ∧ w = w' := by
  obtain ⟨arr, h1, h2⟩ := h
  have c1 : w.cell? ⟨b, 256, none⟩ = some (.int .i64 ((cnt N 256 : Nat) : Int)) := by rw [h1.cell]; exact h2.2.2
  clear h1 h2
  generalize cnt N 256 = n at *
  go_enter Try.func94, Try.ntmps94
  go_wp2
  go_ret
  exact ⟨rfl, rfl⟩
theorem nil_len (w : World) : Calls Try.prog 94 #[.pointer none] w fun x w' => x = .returned (.int .i64 0) ∧ w = w' := by
  go_enter Try.func94, Try.ntmps94
  go_wp2
  go_ret
  exact ⟨rfl, rfl⟩
theorem nil_sadd (w : World) (s : Nat) : Calls Try.prog 108 #[.pointer none, .int .u8 (s : Int)] w fun x w' => x = .returned (.tuple #[]) ∧ w = w' := by
  go_enter Try.func108, Try.ntmps108
  go_wp2
  first | go_end0 | (simp only [Exit.inBlock, Exit.then]; refine bodyPost_ret (results_none rfl _ _ _) rfl ?_) | refine bodyPost_ret (results_none rfl _ _ _) rfl ?_
  exact ⟨rfl, rfl⟩
theorem setCells_add {arr : Array Value} {N : Nat → Bool} {s : Nat} (h : SetCells arr N) (hs : s < 256) (hN : N s = false) : SetCells ((arr.setIfInBounds s (.bool true)).setIfInBounds 256 (.int .i64 (((cnt N 256 : Nat) : Int) + 1))) (addN N s) := by
  obtain ⟨h1, h2, h3⟩ := h
  refine ⟨by simp [h1], fun k hk => ?_, ?_⟩
  · rw [Array.getElem?_setIfInBounds_ne (by omega)]
    by_cases e : k = s
    · subst e
      rw [Array.getElem?_setIfInBounds_self_of_lt (by omega)]
      simp [addN]
    · rw [Array.getElem?_setIfInBounds_ne (fun h => e h.symm), h2 k hk]
      simp [addN, e]
  · rw [Array.getElem?_setIfInBounds_self_of_lt (by simp [h1]), cnt_add hN, if_pos hs]
    simp
set_option maxHeartbeats 1000000 in
theorem set_add {w : World} {O : Paint} {c b : Nat} {N : Nat → Bool} (h : SetAt w O c b N) (s : Nat) (hs : s < 256) :
    Calls Try.prog 108 #[.pointer (some ⟨b, 0, none⟩), .int .u8 (s : Int)] w fun x w' => x = .returned (.tuple #[]) ∧ Step [c] w O w' O ∧ SetAt w' O c b (addN N s) := by
  have H := Lib.hid h
  obtain ⟨arr, h1, h2⟩ := h
  have c1 : w.cell? ⟨b, s, none⟩ = some (.bool (N s)) := by rw [h1.cell]; exact h2.2.1 s hs
  have f1 : w.frozen? ⟨b, s, none⟩ = false := h1.free s
  cases hN : N s with
  | true =>
    rw [addN_in hN]
    rw [hN] at c1
    clear hN h1 h2 f1
    go_enter Try.func108, Try.ntmps108
    go_wp2
    first | go_end0 | (simp only [Exit.inBlock, Exit.then]; refine bodyPost_ret (results_none rfl _ _ _) rfl ?_) | refine bodyPost_ret (results_none rfl _ _ _) rfl ?_
    exact ⟨rfl, Step.refl _ _ _, H.out⟩
  | false =>
    rw [hN] at c1
    have H1 := Lib.hid h1
    have H2 := Lib.hid h2
    have HN := Lib.hid hN
    have hb3 := h1.setCell s (.bool true)
    have hO := Lib.hid h1.2
    clear hN h1 h2 H
    go_enter Try.func108, Try.ntmps108
    go_upto_region 2 with (fail)
    have hs3 : Step [c] w O (w.setCell ⟨b, s, none⟩ (.bool true)) O := (Step.refl [c] w O).setCell (p := ⟨b, s, none⟩) (.inl (by simp [hO.out])) _
    have c2 : (w.setCell ⟨b, s, none⟩ (.bool true)).cell? ⟨b, 256, none⟩ = some (.int .i64 ((cnt N 256 : Nat) : Int)) := by
      rw [hb3.cell, Array.getElem?_setIfInBounds_ne (by omega)]; exact H2.out.2.2
    have f2 := hb3.free 256
    have HS := Lib.hid (hs3.setCell (p := ⟨b, 256, none⟩) (.inl (by simp [hO.out])) (.int .i64 (((cnt N 256 : Nat) : Int) + 1)))
    have HB := Lib.hid (hb3.setCell 256 (.int .i64 (((cnt N 256 : Nat) : Int) + 1)))
    have HC := Lib.hid (setCells_add H2.out hs HN.out)
    have hle : cnt N 256 ≤ 256 := by have := cnt_free N 256; omega
    clear hb3 hs3 c1 f1
    generalize w.setCell ⟨b, s, none⟩ (.bool true) = w3 at *
    generalize hcn : cnt N 256 = n at *
    clear hcn
    go_wp2
    first | go_end0 | (simp only [Exit.inBlock, Exit.then]; refine bodyPost_ret (results_none rfl _ _ _) rfl ?_) | refine bodyPost_ret (results_none rfl _ _ _) rfl ?_
    exact ⟨rfl, HS.out, _, HB.out, HC.out⟩
theorem set_others {w : World} {O : Paint} {c b : Nat} {N : Nat → Bool} (h : SetAt w O c b N) :
    Calls Try.prog 109 #[.pointer (some ⟨b, 0, none⟩)] w fun x w' => x = .returned (.int .u32 ((free N 256 : Nat) : Int)) ∧ w = w' := by
  have HL := Lib.hid (set_len h)
  have hcf := cnt_free N 256
  clear h
  generalize cnt N 256 = n at *
  generalize free N 256 = f at *
  have HF := Lib.hid (show (256 : Int) - (n : Int) = (f : Int) by omega)
  have hn : n ≤ 256 := by omega
  clear hcf
  go_enter Try.func109, Try.ntmps109
  go_wp2_with fail
  refine HL.out.mono ?_
  rintro x w1 ⟨rfl, rfl⟩
  go_wp2
  go_ret
  exact ⟨ret_num (by have := HF.out; omega), rfl⟩
set_option maxHeartbeats 1000000 in
theorem put_other {w : World} {O : Paint} {c ce b ae : Nat} {N : Nat → Bool} {e : Enc} (h : SetAt w O c b N) (he : EncAt w O ce ae e) (hte : e.turns ≤ 999000) (s : Nat) (hs : s < 256) (hN : N s = false) :
    Calls Try.prog 77 #[.pointer (some ⟨ae, 0, none⟩), .int .u8 (s : Int), .pointer (some ⟨b, 0, none⟩)] w (Rc.Went w O ce ae (e.part (free N s) 1 (free N 256))) := by
  have HO := Lib.hid (set_others h)
  have HH := Lib.hid h.not
  have hfl := free_lt hN hs
  have hcf := cnt_free N 256
  have HE := Lib.hid (Rc.encpart he hte (free N s) 1 (free N 256) (Nat.le_refl _) hfl (by omega))
  clear h he hte hN
  go_enter Try.func77, Try.ntmps77
  go_wp2
  go_loop [6, 7, 9] (fun t _ i => ∃ k : Nat, k ≤ s ∧ i = .int .u8 k ∧ t = .int .u32 ((free N k : Nat) : Int)) (fun _ _ i => s - (intOf i).toNat)
  case atStart => exact ⟨0, by omega, rfl, rfl⟩
  case round =>
    obtain ⟨k, hk, rfl, rfl⟩ := hrel
    have hck := cnt_free N k
    by_cases hlt : k < s
    · have HST := Lib.hid (show free N (k + 1) = if N k then free N k else free N k + 1 from rfl)
      have HK := Lib.hid (setHas HH.out k (by omega))
      clear HO HE
      generalize free N k = f at *
      go_wp2_with fail
      refine HK.out.mono ?_
      rintro x w1 ⟨rfl, rfl⟩
      cases hNk : N k with
      | true =>
        rw [hNk, if_pos rfl] at HST
        go_wp2_with fail
        go_round
        case rel => exact ⟨k + 1, by omega, by go_num, by rw [HST.out]⟩
        case measure => simp [intOf]; omega
      | false =>
        rw [hNk, if_neg (by simp)] at HST
        go_wp2_with fail
        go_round
        case rel => exact ⟨k + 1, by omega, by go_num, by rw [HST.out]; go_num⟩
        case measure => simp [intOf]; omega
    · obtain rfl : k = s := by omega
      go_wp2_with fail
      refine HO.out.mono ?_
      rintro x w1 ⟨rfl, rfl⟩
      go_wp2_with fail
      refine HE.out.mono ?_
      rintro x w2 ⟨rfl, O2, hs2, he2⟩
      have HS2 := Lib.hid hs2
      have HE2 := Lib.hid he2
      clear hs2 he2
      go_wp2
      first | go_end0 | (simp only [Exit.inBlock, Exit.then]; refine bodyPost_ret (results_none rfl _ _ _) rfl ?_) | refine bodyPost_ret (results_none rfl _ _ _) rfl ?_
      exact ⟨rfl, O2, HS2.out, HE2.out⟩
set_option maxRecDepth 100000 in
set_option maxHeartbeats 1000000 in
/-- A sign is got where it lies: so many others are below it. -/
theorem get_other {w : World} {O : Paint} {c cd b ad tot : Nat} {N : Nat → Bool} {d : Dec} (h : SetAt w O c b N) (he : DecAt w O cd ad d tot) (hc : c ≠ cd) (s : Nat) (hs : s < 256) (hN : N s = false) (hw : d.whereIn (free N 256) = free N s) :
    Calls Try.prog 95 #[.pointer (some ⟨ad, 0, none⟩), .pointer (some ⟨b, 0, none⟩)] w fun x w' => x = .returned (.int .u8 (s : Int)) ∧ Step [cd] w O w' O ∧ DecAt w' O cd ad (d.take (free N s) 1 (free N 256)) (free N 256) := by
  have HO := Lib.hid (set_others h)
  have hfl := free_lt hN hs
  have hcf := cnt_free N 256
  have HWH := Lib.hid (Rc.decwhere he (free N 256) (by omega) (by omega))
  have HH := Lib.hid (fun (W : World) (hs : Step [cd] w O W O) => (h.step hs (by simpa using hc)).not)
  have HW := Lib.hid hw
  have HN := Lib.hid hN
  clear h he hN hw
  go_enter Try.func95, Try.ntmps95
  go_wp2_with fail
  refine HO.out.mono ?_
  rintro x w1 ⟨rfl, rfl⟩
  go_wp2_with fail
  refine HWH.out.mono ?_
  rw [HW.out]
  rintro x w2 ⟨rfl, hs2, hd2⟩
  have HS2 := Lib.hid hs2
  have HD2 := Lib.hid hd2
  have HH2 := Lib.hid (HH.out _ hs2)
  clear hs2 hd2 HO HWH HH
  go_wp2
  go_loop [6, 7, 8, 13] (fun t _ _ i => ∃ k : Nat, k ≤ s ∧ i = .int .i64 k ∧ t = .int .u32 ((free N k : Nat) : Int)) (fun _ _ _ i => s + 1 - (intOf i).toNat)
  case atStart => exact ⟨0, by omega, rfl, rfl⟩
  case round =>
    obtain ⟨k, hk, rfl, rfl⟩ := hrel
    have hck := cnt_free N k
    have HST := Lib.hid (show free N (k + 1) = if N k then free N k else free N k + 1 from rfl)
    have HK := Lib.hid (setHas HH2.out k (by omega))
    have em : (k : Int) % 256 = (k : Int) := by omega
    by_cases hlt : k < s
    · have HLT := Lib.hid (fun (h : N k = false) => free_lt h hlt)
      generalize free N k = f at *
      generalize free N s = fs at *
      go_wp2_with fail
      refine HK.out.mono ?_
      rintro x w1 ⟨rfl, rfl⟩
      cases hNk : N k with
      | true =>
        rw [hNk, if_pos rfl] at HST
        clear HLT
        go_wp2_with fail
        go_round
        case rel => exact ⟨k + 1, by omega, by go_num, by rw [HST.out]⟩
        case measure => simp [intOf]; omega
      | false =>
        rw [hNk, if_neg (by simp)] at HST
        have hl2 := HLT.out hNk
        have hd : ((f : Int) == (fs : Int)) = false := by rw [beq_eq_false_iff_ne]; omega
        clear HLT
        go_wp2_with fail
        go_round
        case rel => exact ⟨k + 1, by omega, by go_num, by rw [HST.out]; go_num⟩
        case measure => simp [intOf]; omega
    · obtain rfl : k = s := by omega
      rw [HN.out] at HK
      have HT := Lib.hid (Rc.dectake HD2.out (free N k) 1 (Nat.le_refl _) hfl (by omega))
      clear HST
      generalize hf : free N k = f at *
      have HF := Lib.hid hf
      clear hf
      go_wp2_with fail
      refine HK.out.mono ?_
      rintro x w1 ⟨rfl, rfl⟩
      go_wp2_with fail
      refine HT.out.mono ?_
      rintro x w3 ⟨rfl, hs3, hd3⟩
      have HS3 := Lib.hid (HS2.out.trans hs3)
      have HD3 := Lib.hid hd3
      clear hs3 hd3
      go_wp2
      go_ret
      exact ⟨rfl, HS3.out, by rw [HF.out]; exact HD3.out⟩
end Go.Proofs.Yteacmcckhjabmaa.Fq
