/-
  Package freq: contracts of a set's Has, of a table's sums, Put and Get.
-/
import Derived.Test.YteacmcckhjabmaaFreqSigns
import Derived.Test.YteacmcckhjabmaaFreqParts
namespace Go.Proofs.Yteacmcckhjabmaa.Fq
open Go.RowKit
open Rc (Enc Dec EncAt DecAt)
/-- A set of signs, or none. -/
def NotAt (w : World) (v : Value) (N : Nat → Bool) : Prop := (v = .pointer none ∧ ∀ s, N s = false) ∨ ∃ b, v = .pointer (some ⟨b, 0, none⟩) ∧ b < w.heap.size ∧ ∀ s, s < 256 → w.cell? ⟨b, s, none⟩ = some (.bool (N s))
theorem NotAt.below {w w' : World} {v : Value} {N : Nat → Bool} (h : NotAt w v N) (hb : Below w.heap.size w w') : NotAt w' v N := by
  rcases h with h | ⟨b, h1, h2, h3⟩
  · exact .inl h
  · exact .inr ⟨b, h1, Nat.lt_of_lt_of_le h2 hb.size, fun s hs => (hb.cell (p := ⟨b, s, none⟩) h2).trans (h3 s hs)⟩
theorem setHas {w : World} {v : Value} {N : Nat → Bool} (h : NotAt w v N) (s : Nat) (hs : s < 256) :
    Calls Try.prog 105 #[v, .int .u8 (s : Int)] w fun x w' => x = .returned (.bool (N s)) ∧ w = w' := by
  rcases h with ⟨rfl, h⟩ | ⟨b, rfl, h2, h3⟩
  · rw [h s]
    clear h
    go_enter Try.func105, Try.ntmps105
    go_wp2
    go_ret
    exact ⟨rfl, rfl⟩
  · have c := h3 s hs
    clear h3
    go_enter Try.func105, Try.ntmps105
    go_wp2
    go_ret
    exact ⟨ret_bool (by simp), rfl⟩
theorem ret_tup {a b c d : Int} (h1 : a = c) (h2 : b = d) : Ending.returned (.tuple #[.int .u32 a, .int .u32 b]) = .returned (.tuple #[.int .u32 c, .int .u32 d]) := by rw [h1, h2]
set_option maxHeartbeats 1000000 in
theorem sums_any {w : World} {O : Paint} {c a : Nat} {v vn : Value} {l : List (Nat × Nat)} {N : Nat → Bool} (h : TabAt w O c a v l) (ht : Tab 120 l) (hl : l.length ≤ 1000000) (hN : NotAt w vn N) :
    Calls Try.prog 103 #[.pointer (some ⟨a, 0, none⟩), vn] w fun x w' => x = .returned (.tuple #[.int .u32 ((total (allow N l) : Nat) : Int), .int .u32 ((noneOf N l : Nat) : Int)]) ∧ Below w.heap.size w w' := by
  have HA := Lib.hid (all_any h)
  have HS := Lib.hid h.2
  have HT := Lib.hid ht
  have HN := Lib.hid hN
  rcases h.2.form with ⟨rfl, rfl⟩ | ⟨g, cap, rfl, hcap, hml, _, hg, _⟩
  · clear h ht HS HT hN HN
    go_enter Try.func103, Try.ntmps103
    go_wp2_with fail
    refine HA.out.mono ?_
    rintro x w1 ⟨rfl, rfl⟩
    go_wp2
    go_loop [4, 5, 11] (fun t n i => t = .int .u32 0 ∧ n = .int .u32 0 ∧ i = .int .i64 0) (fun _ _ i => 1)
    case atStart => exact ⟨rfl, rfl, rfl⟩
    case round =>
      obtain ⟨rfl, rfl, rfl⟩ := hrel
      go_wp2
      go_ret2
      exact ⟨ret_tup (by simp [allow, total]) (by simp [noneOf, allow]), Below.refl _ _⟩
  · clear h ht hN
    unfold maxLen at hml
    have H0 := Lib.hid (show total (allow N (l.take 0)) = 0 ∧ (allow N (l.take 0)).length = 0 by simp [allow, total])
    go_enter Try.func103, Try.ntmps103
    go_wp2_with fail
    refine HA.out.mono ?_
    rintro x w1 ⟨rfl, rfl⟩
    go_wp2
    go_loopw [4, 5, 7, 11] (fun t n _ i wr => ∃ k : Nat, k ≤ l.length ∧ i = .int .i64 k ∧ t = .int .u32 ((total (allow N (l.take k)) : Nat) : Int) ∧ n = .int .u32 (((allow N (l.take k)).length : Nat) : Int) ∧ Below w.heap.size w wr) (fun _ _ _ i _ => l.length - (intOf i).toNat)
    case atStart => exact ⟨0, by omega, rfl, by rw [H0.out.1]; rfl, by rw [H0.out.2]; rfl, Below.refl _ _⟩
    case round =>
      clear H0
      obtain ⟨k, hk, rfl, rfl, rfl, hb⟩ := hrel
      have hst := sum_take N HT.out k
      by_cases hlt : k < l.length
      · have c0 := (hb.cell (p := ⟨g, k * 2, none⟩) hg).trans (HS.out.cell (flat_even l k hlt))
        have c1 := (hb.cell (p := ⟨g, k * 2 + 1, none⟩) hg).trans (HS.out.cell (flat_odd l k hlt))
        have hta := tab_at HT.out hlt
        have HAS := Lib.hid (show allow N (l.take (k + 1)) = if N (at' l k).1 then allow N (l.take k) else allow N (l.take k) ++ [at' l k] by rw [take_next l k hlt, allow_snoc])
        have HTS := Lib.hid (show total (allow N (l.take k) ++ [at' l k]) = total (allow N (l.take k)) + (at' l k).2 by rw [total_append]; simp [total])
        have HLS := Lib.hid (show (allow N (l.take k) ++ [at' l k]).length = (allow N (l.take k)).length + 1 by simp)
        have hz := hb.size
        have HBA := Lib.hid (fun o => hb.alloc hz o)
        have HHAS := Lib.hid (fun o => setHas (HN.out.below (hb.alloc hz o)) (at' l k).1 hta.1)
        clear hb
        generalize allow N (l.take k) ++ [at' l k] = L1 at *
        generalize allow N (l.take k) = L0 at *
        generalize (at' l k).1 = x1 at *
        generalize (at' l k).2 = x2 at *
        go_wp2_with fail
        refine (HHAS.out _).mono ?_
        rintro x w2 ⟨rfl, rfl⟩
        cases hNx : N x1 with
        | true =>
          rw [hNx, if_pos rfl] at HAS
          go_wp2_with fail
          go_roundw
          case rel => exact ⟨k + 1, by omega, by go_num, by rw [HAS.out], by rw [HAS.out], HBA.out _⟩
          case measure => simp [intOf]; omega
        | false =>
          rw [hNx, if_neg (by simp)] at HAS
          go_wp2_with fail
          go_roundw
          case rel => exact ⟨k + 1, by omega, by go_num, by rw [HAS.out, HTS.out]; go_num, by rw [HAS.out, HLS.out]; go_num, HBA.out _⟩
          case measure => simp [intOf]; omega
      · obtain rfl : k = l.length := by omega
        rw [List.take_length] at hst ⊢
        have HB := Lib.hid hb
        have HNO := Lib.hid (show noneOf N l = max (allow N l).length 1 from rfl)
        clear hb
        go_wp2_with fail
        all_goals
          go_ret2
          exact ⟨ret_tup rfl (by have := HNO.out; omega), HB.out⟩
/-- What a sign that was put leaves. -/
def PutBy (w : World) (O : Paint) (ce ae : Nat) (e : Enc) (b : Bool) (x : Ending) (w' : World) : Prop := x = .returned (.bool b) ∧ ∃ O', Step [ce] w O w' O' ∧ EncAt w' O' ce ae e
set_option maxHeartbeats 2000000 in
theorem put_any {w : World} {O : Paint} {c ce a ae : Nat} {v vn : Value} {e : Enc} {l : List (Nat × Nat)} {N : Nat → Bool} (h : TabAt w O c a v l) (ht : Tab 120 l) (hl : l.length ≤ 1000000) (hN : NotAt w vn N) (hall : allOf N l ≤ 65536) (he : EncAt w O ce ae e) (hte : e.turns ≤ 999000) (s : Nat) (hs : s < 256) :
    Calls Try.prog 75 #[.pointer (some ⟨a, 0, none⟩), .pointer (some ⟨ae, 0, none⟩), .int .u8 (s : Int), vn] w (PutBy w O ce ae (putE e l N s).1 (putE e l N s).2) := by
  have HA := Lib.hid (fun (W : World) (hb : Below w.heap.size w W) => all_any (h.step (Step.of_below_same hb O) (cs := []) (by simp)))
  have HSU := Lib.hid (sums_any h ht hl hN)
  have HS := Lib.hid h.2
  have HT := Lib.hid ht
  have HN := Lib.hid hN
  have HE := Lib.hid (fun (W : World) (hb : Below w.heap.size w W) => he.step (Step.of_below_same hb O) (cs := []) (by simp))
  have hno : 1 ≤ noneOf N l := by unfold noneOf; omega
  have hal : allOf N l = total (allow N l) + noneOf N l := rfl
  have HPB := Lib.hid (fun a n h => part_bound N s l 0 a n ht h)
  rcases h.2.form with ⟨rfl, rfl⟩ | ⟨g, cap, rfl, hcap, hml, _, hg, _⟩
  · have HP := Lib.hid (show putE e [] N s = (e.part (total (allow N [])) (noneOf N []) (allOf N []), false) from rfl)
    clear h ht HS HT hN HN he HPB
    generalize putE e [] N s = r at *
    generalize total (allow N []) = t0 at *
    generalize noneOf N [] = n0 at *
    have HAL := Lib.hid (show ((t0 : Nat) : Int) + (n0 : Int) = ((allOf N [] : Nat) : Int) by omega)
    go_enter Try.func75, Try.ntmps75
    go_wp2_with fail
    refine HSU.out.mono ?_
    rintro x w1 ⟨rfl, hb1⟩
    have HB1 := Lib.hid hb1
    clear hb1
    go_wp2_with fail
    refine (HA.out _ HB1.out).mono ?_
    rintro x w2 ⟨rfl, rfl⟩
    go_wp2
    go_loop [23] (fun i => i = .int .i64 0) (fun i => 1)
    case atStart => rfl
    case round =>
      subst hrel
      go_upto_region 12 with (fail)
      go_wp2_with fail
      rw [HAL.out]
      refine (Rc.encpart (HE.out _ HB1.out) hte t0 n0 (allOf N []) hno (by omega) hall).mono ?_
      rintro x w3 ⟨rfl, O3, hs3, he3⟩
      have HS3 := Lib.hid hs3
      have HE3 := Lib.hid he3
      clear hs3 he3
      go_wp2_with fail
      go_ret
      exact ⟨ret_bool (by rw [HP.out]), O3, (Step.of_below_same HB1.out O).nil.trans HS3.out, by rw [HP.out]; exact HE3.out⟩
  · clear h ht hN he
    unfold maxLen at hml
    have H0 := Lib.hid (show total (allow N (l.take 0)) = 0 by simp [allow, total])
    have hT0 : total (allow N l) ≤ 65536 := by omega
    have hN0 : noneOf N l ≤ 65536 := by omega
    have HAL := Lib.hid (show ((total (allow N l) : Nat) : Int) + ((noneOf N l : Nat) : Int) = ((allOf N l : Nat) : Int) by omega)
    have HP := Lib.hid (show putE e l N s = match partOf N s l 0 with | some (a, n) => (e.part a n (allOf N l), true) | none => (e.part (total (allow N l)) (noneOf N l) (allOf N l), false) from rfl)
    generalize putE e l N s = r at *
    have HFULL := Lib.hid (show total (allow N (l.take l.length)) = total (allow N l) by rw [List.take_length])
    have HALL := Lib.hid hall
    have HAQ := Lib.hid hal
    clear hal hall
    go_enter Try.func75, Try.ntmps75
    go_wp2_with fail
    refine HSU.out.mono ?_
    rintro x w1 ⟨rfl, hb1⟩
    have HB1 := Lib.hid hb1
    clear hb1
    go_wp2_with fail
    refine (HA.out _ HB1.out).mono ?_
    rintro x w2 ⟨rfl, rfl⟩
    go_wp2
    go_loopw [11, 13, 23] (fun t _ i wr => ∃ k : Nat, k ≤ l.length ∧ i = .int .i64 k ∧ t = .int .u32 ((total (allow N (l.take k)) : Nat) : Int) ∧ partOf N s l 0 = partOf N s (l.drop k) (total (allow N (l.take k))) ∧ Below w.heap.size w wr) (fun _ _ i _ => l.length - (intOf i).toNat)
    case atStart => exact ⟨0, by omega, rfl, by rw [H0.out]; rfl, by rw [H0.out]; rfl, HB1.out⟩
    case round =>
      clear H0
      obtain ⟨k, hk, rfl, rfl, hpo, hb⟩ := hrel
      have hst := sum_take N HT.out k
      by_cases hlt : k < l.length
      · have c0 := (hb.cell (p := ⟨g, k * 2, none⟩) hg).trans (HS.out.cell (flat_even l k hlt))
        have c1 := (hb.cell (p := ⟨g, k * 2 + 1, none⟩) hg).trans (HS.out.cell (flat_odd l k hlt))
        have hta := tab_at HT.out hlt
        have HAS := Lib.hid (show total (allow N (l.take (k + 1))) = if N (at' l k).1 then total (allow N (l.take k)) else total (allow N (l.take k)) + (at' l k).2 by
          rw [take_next l k hlt, allow_snoc]
          split
          · rfl
          · rw [total_append]; simp [total])
        have HPO := Lib.hid (show partOf N s l 0 = if N (at' l k).1 then partOf N s (l.drop (k + 1)) (total (allow N (l.take k))) else if (at' l k).1 = s then some (total (allow N (l.take k)), (at' l k).2) else partOf N s (l.drop (k + 1)) (total (allow N (l.take k)) + (at' l k).2) by rw [hpo, drop_next l k hlt]; rfl)
        have hz := hb.size
        have HBA := Lib.hid (fun o => hb.alloc hz o)
        have HHAS := Lib.hid (fun o => setHas (HN.out.below (hb.alloc hz o)) (at' l k).1 hta.1)
        clear hb hpo
        generalize (at' l k).1 = x1 at *
        generalize (at' l k).2 = x2 at *
        go_wp2_with fail
        refine (HHAS.out _).mono ?_
        rintro x w2 ⟨rfl, rfl⟩
        cases hNx : N x1 with
        | true =>
          rw [hNx, if_pos rfl] at HAS
          rw [hNx, if_pos rfl] at HPO
          go_wp2_with fail
          go_roundw
          case rel => exact ⟨k + 1, by omega, by go_num, by rw [HAS.out], by rw [HAS.out]; exact HPO.out, HBA.out _⟩
          case measure => simp [intOf]; omega
        | false =>
          rw [hNx, if_neg (by simp)] at HAS
          rw [hNx, if_neg (by simp)] at HPO
          by_cases hx : x1 = s
          · subst hx
            rw [if_pos rfl] at HPO
            have hpb := HPB.out _ _ HPO.out
            have HP2 := Lib.hid (show r = (e.part (total (allow N (l.take k))) x2 (allOf N l), true) by rw [HP.out, HPO.out])
            go_wp2_with fail
            rw [HAL.out]
            refine (Rc.encpart (HE.out _ (HBA.out _)) hte (total (allow N (l.take k))) x2 (allOf N l) (by omega) (by have := HAQ.out; omega) HALL.out).mono ?_
            rintro x w3 ⟨rfl, O3, hs3, he3⟩
            have HS3 := Lib.hid ((Step.of_below_same (HBA.out _) O).nil.trans hs3)
            have HE3 := Lib.hid he3
            clear hs3 he3
            go_wp2_with fail
            go_ret
            exact ⟨ret_bool (by rw [HP2.out]), O3, HS3.out, by rw [HP2.out]; exact HE3.out⟩
          · have hd : ((x1 : Int) == (s : Int)) = false := by rw [beq_eq_false_iff_ne]; omega
            rw [if_neg hx] at HPO
            go_wp2_with fail
            go_roundw
            case rel => exact ⟨k + 1, by omega, by go_num, by rw [HAS.out]; go_num, by rw [HAS.out]; exact HPO.out, HBA.out _⟩
            case measure => simp [intOf]; omega
      · obtain rfl : k = l.length := by omega
        have HP2 := Lib.hid (show r = (e.part (total (allow N l)) (noneOf N l) (allOf N l), false) by rw [HP.out, hpo, List.drop_length]; rfl)
        have HB := Lib.hid hb
        clear hb hpo
        go_wp2_with fail
        rw [HAL.out]
        refine (Rc.encpart (HE.out _ HB.out) hte (total (allow N l)) (noneOf N l) (allOf N l) hno (by have := HAQ.out; omega) HALL.out).mono ?_
        rintro x w3 ⟨rfl, O3, hs3, he3⟩
        have HS3 := Lib.hid ((Step.of_below_same HB.out O).nil.trans hs3)
        have HE3 := Lib.hid he3
        clear hs3 he3
        go_wp2_with fail
        go_ret
        exact ⟨ret_bool (by rw [HP2.out]), O3, HS3.out, by rw [HP2.out]; exact HE3.out⟩
/-- What a sign that was got leaves. -/
def GotBy (w : World) (O : Paint) (cd ad tot : Nat) (r : Dec × Nat × Bool) (x : Ending) (w' : World) : Prop := x = .returned (.tuple #[.int .u8 (r.2.1 : Int), .bool r.2.2]) ∧ Step [cd] w O w' O ∧ DecAt w' O cd ad r.1 tot
theorem ret_got {a b : Int} {c d : Bool} (h1 : a = b) (h2 : c = d) : Ending.returned (.tuple #[.int .u8 a, .bool c]) = .returned (.tuple #[.int .u8 b, .bool d]) := by rw [h1, h2]
theorem dec_colour {w : World} {O : Paint} {c a tot : Nat} {d : Dec} (h : DecAt w O c a d tot) : O a = c := by
  obtain ⟨⟨s, r, hb, _⟩, _⟩ := h
  exact hb.2
theorem repaint {w : World} {O O1 : Paint} {c a tot : Nat} {d : Dec} (h : DecAt w O1 c a d tot) (ho : O a = c) : DecAt w O c a d tot := by
  obtain ⟨⟨s, r, hb, hr⟩, hf⟩ := h
  exact ⟨⟨s, r, ⟨hb.1, ho⟩, hr⟩, hf⟩
set_option maxHeartbeats 2000000 in
theorem get_any {w : World} {O : Paint} {c cd a ad tot : Nat} {v vn : Value} {d : Dec} {l : List (Nat × Nat)} {N : Nat → Bool} (h : TabAt w O c a v l) (ht : Tab 120 l) (hl : l.length ≤ 1000000) (hN : NotAt w vn N) (hall : allOf N l ≤ 65536) (he : DecAt w O cd ad d tot) (hc : c ≠ cd) (hNw : ∀ W, Step [cd] w O W O → NotAt W vn N) :
    Calls Try.prog 93 #[.pointer (some ⟨a, 0, none⟩), .pointer (some ⟨ad, 0, none⟩), vn] w (GotBy w O cd ad (allOf N l) (getD d l N)) := by
  have HA := Lib.hid (fun (W : World) (hb : Step [cd] w O W O) => all_any (h.step hb (by simpa using hc)))
  have HSU := Lib.hid (sums_any h ht hl hN)
  have HS := Lib.hid (fun (W : World) (hb : Step [cd] w O W O) => h.2.step hb (by simpa using hc))
  have HT := Lib.hid ht
  have HN := Lib.hid hNw
  have HE := Lib.hid (fun (W : World) (hb : Below w.heap.size w W) => he.step (Step.of_below_same hb O) (cs := []) (by simp))
  have hno : 1 ≤ noneOf N l := by unfold noneOf; omega
  have hal : allOf N l = total (allow N l) + noneOf N l := rfl
  rcases h.2.form with ⟨rfl, rfl⟩ | ⟨g, cap, rfl, hcap, hml, _, hg, _⟩
  · have HP := Lib.hid (show getD d [] N = (d.take (total (allow N [])) (noneOf N []) (allOf N []), 0, false) from rfl)
    clear h ht HS HT hN HN he hNw
    generalize getD d [] N = r at *
    generalize total (allow N []) = t0 at *
    generalize noneOf N [] = n0 at *
    have HAL := Lib.hid (show ((t0 : Nat) : Int) + (n0 : Int) = ((allOf N [] : Nat) : Int) by omega)
    go_enter Try.func93, Try.ntmps93
    go_wp2_with fail
    refine HSU.out.mono ?_
    rintro x w1 ⟨rfl, hb1⟩
    have HB1 := Lib.hid hb1
    clear hb1
    go_wp2_with fail
    rw [HAL.out]
    refine (Rc.decwhere (HE.out _ HB1.out) (allOf N []) (by omega) hall).mono ?_
    rintro x w2 ⟨rfl, hs2, hd2⟩
    have HS2 := Lib.hid ((Step.of_below_same HB1.out O).nil.trans hs2)
    have HD2 := Lib.hid hd2
    clear hs2 hd2
    go_wp2_with fail
    refine (HA.out _ HS2.out).mono ?_
    rintro x w2 ⟨rfl, rfl⟩
    go_wp2
    go_loop [28] (fun i => i = .int .i64 0) (fun i => 1)
    case atStart => rfl
    case round =>
      subst hrel
      go_wp2_with fail
      refine (Rc.dectake HD2.out t0 n0 hno (by omega) hall).mono ?_
      rintro x w3 ⟨rfl, hs3, he3⟩
      have HS3 := Lib.hid (HS2.out.trans hs3)
      have HE3 := Lib.hid he3
      clear hs3 he3
      go_wp2_with fail
      go_ret2
      exact ⟨ret_got (by rw [HP.out]; rfl) (by rw [HP.out]), HS3.out, by rw [HP.out]; exact HE3.out⟩
  · clear h ht hN he hNw
    unfold maxLen at hml
    have H0 := Lib.hid (show total (allow N (l.take 0)) = 0 by simp [allow, total])
    have hT0 : total (allow N l) ≤ 65536 := by omega
    have hN0 : noneOf N l ≤ 65536 := by omega
    have HAL := Lib.hid (show ((total (allow N l) : Nat) : Int) + ((noneOf N l : Nat) : Int) = ((allOf N l : Nat) : Int) by omega)
    have HP := Lib.hid (show getD d l N = match signOf N (d.whereIn (allOf N l)) l 0 with | some (s, a, n) => (d.take a n (allOf N l), s, true) | none => (d.take (total (allow N l)) (noneOf N l) (allOf N l), 0, false) from rfl)
    generalize getD d l N = r at *
    have HALL := Lib.hid hall
    have HAQ := Lib.hid hal
    clear hal hall
    go_enter Try.func93, Try.ntmps93
    go_wp2_with fail
    refine HSU.out.mono ?_
    rintro x w1 ⟨rfl, hb1⟩
    have HB1 := Lib.hid hb1
    clear hb1
    go_wp2_with fail
    rw [HAL.out]
    refine (Rc.decwhere (HE.out _ HB1.out) (allOf N l) (by have := HAQ.out; omega) HALL.out).mono ?_
    rintro x w2 ⟨rfl, hs2, hd2⟩
    have HS2 := Lib.hid ((Step.of_below_same HB1.out O).nil.trans hs2)
    have HD2 := Lib.hid hd2
    clear hs2 hd2 HSU HE
    generalize hwh : d.whereIn (allOf N l) = wh at *
    have HPB := Lib.hid (fun s a n h => sign_bound N wh l 0 s a n HT.out h)
    clear hwh
    go_wp2_with fail
    refine (HA.out _ HS2.out).mono ?_
    rintro x w2 ⟨rfl, rfl⟩
    go_wp2
    go_loopw [11, 13, 28] (fun t _ i wr => ∃ k : Nat, k ≤ l.length ∧ i = .int .i64 k ∧ t = .int .u32 ((total (allow N (l.take k)) : Nat) : Int) ∧ signOf N wh l 0 = signOf N wh (l.drop k) (total (allow N (l.take k))) ∧ Step [cd] w O wr O ∧ DecAt wr O cd ad d (allOf N l)) (fun _ _ i _ => l.length - (intOf i).toNat)
    case atStart => exact ⟨0, by omega, rfl, by rw [H0.out]; rfl, by rw [H0.out]; rfl, HS2.out, HD2.out⟩
    case round =>
      clear H0 HS2 HD2
      obtain ⟨k, hk, rfl, rfl, hpo, hs2, hd2⟩ := hrel
      have hst := sum_take N HT.out k
      by_cases hlt : k < l.length
      · have c0 := (HS.out _ hs2).cell (flat_even l k hlt)
        have c1 := (HS.out _ hs2).cell (flat_odd l k hlt)
        have hta := tab_at HT.out hlt
        have HAS := Lib.hid (show total (allow N (l.take (k + 1))) = if N (at' l k).1 then total (allow N (l.take k)) else total (allow N (l.take k)) + (at' l k).2 by
          rw [take_next l k hlt, allow_snoc]
          split
          · rfl
          · rw [total_append]; simp [total])
        have HPO := Lib.hid (show signOf N wh l 0 = if N (at' l k).1 then signOf N wh (l.drop (k + 1)) (total (allow N (l.take k))) else if wh < total (allow N (l.take k)) + (at' l k).2 then some ((at' l k).1, total (allow N (l.take k)), (at' l k).2) else signOf N wh (l.drop (k + 1)) (total (allow N (l.take k)) + (at' l k).2) by rw [hpo, drop_next l k hlt]; rfl)
        have HSA := Lib.hid (fun o => hs2.alloc o)
        have HDA := Lib.hid (fun o => hd2.step ((Step.refl [] wr O).alloc o) (by simp))
        have HHAS := Lib.hid (fun o => setHas (HN.out _ (hs2.alloc o)) (at' l k).1 hta.1)
        have HSP := Lib.hid (fun o => hs2.trans (Step.alloc_paint wr O (cd + 1) o).nil)
        have HDP := Lib.hid (fun o => hd2.step (Step.alloc_paint wr O (cd + 1) o) (by simp))
        have HOA := Lib.hid (dec_colour hd2)
        have hgw : g < wr.heap.size := (HS.out _ hs2).lt rfl
        clear hs2 hd2 hpo
        generalize (at' l k).1 = x1 at *
        generalize (at' l k).2 = x2 at *
        go_wp2_with fail
        refine (HHAS.out _).mono ?_
        rintro x w2 ⟨rfl, rfl⟩
        cases hNx : N x1 with
        | true =>
          rw [hNx, if_pos rfl] at HAS
          rw [hNx, if_pos rfl] at HPO
          go_wp2_with fail
          go_roundw
          case rel => exact ⟨k + 1, by omega, by go_num, by rw [HAS.out], by rw [HAS.out]; exact HPO.out, HSA.out _, HDA.out _⟩
          case measure => simp [intOf]; omega
        | false =>
          rw [hNx, if_neg (by simp)] at HAS
          rw [hNx, if_neg (by simp)] at HPO
          by_cases hx : wh < total (allow N (l.take k)) + x2
          · rw [if_pos hx] at HPO
            have hpb := HPB.out _ _ _ HPO.out
            have HP2 := Lib.hid (show r = (d.take (total (allow N (l.take k))) x2 (allOf N l), x1, true) by rw [HP.out, HPO.out])
            have hd : decide ((wh : Int) < ((total (allow N (l.take k)) : Nat) : Int) + (x2 : Int)) = true := by rw [decide_eq_true_iff]; omega
            go_wp2_with fail
            refine (Rc.dectake (HDP.out _) (total (allow N (l.take k))) x2 (by omega) (by have := HAQ.out; omega) HALL.out).mono ?_
            rintro x w3 ⟨rfl, hs3, he3⟩
            have b0 : w3.cell? ⟨wr.heap.size, 0, none⟩ = some (.int .u8 (x1 : Int)) := (hs3.cell (p := ⟨wr.heap.size, 0, none⟩) (by simp) (by simp [Step.paint])).trans ((Blk.new wr O 0 _).cell 0)
            have HS3 : Hid (Step [cd] w O w3 O) := Lib.hid ⟨((HSP.out _).trans hs3).frame, fun _ _ => rfl⟩
            have HE3 := Lib.hid (repaint he3 HOA.out)
            clear hs3 he3
            go_wp2_with fail
            go_ret2
            exact ⟨ret_got (by rw [HP2.out]) (by rw [HP2.out]), HS3.out, by rw [HP2.out]; exact HE3.out⟩
          · have hd : decide ((wh : Int) < ((total (allow N (l.take k)) : Nat) : Int) + (x2 : Int)) = false := by rw [decide_eq_false_iff_not]; omega
            rw [if_neg hx] at HPO
            go_wp2_with fail
            go_roundw
            case rel => exact ⟨k + 1, by omega, by go_num, by rw [HAS.out]; go_num, by rw [HAS.out]; exact HPO.out, HSA.out _, HDA.out _⟩
            case measure => simp [intOf]; omega
      · obtain rfl : k = l.length := by omega
        have HP2 := Lib.hid (show r = (d.take (total (allow N l)) (noneOf N l) (allOf N l), 0, false) by rw [HP.out, hpo, List.drop_length]; rfl)
        have HSE := Lib.hid hs2
        have HDE := Lib.hid hd2
        clear hs2 hd2 hpo
        go_wp2_with fail
        refine (Rc.dectake HDE.out (total (allow N l)) (noneOf N l) hno (by have := HAQ.out; omega) HALL.out).mono ?_
        rintro x w3 ⟨rfl, hs3, he3⟩
        have HS3 := Lib.hid (HSE.out.trans hs3)
        have HE3 := Lib.hid he3
        clear hs3 he3
        go_wp2_with fail
        go_ret2
        exact ⟨ret_got (by rw [HP2.out]; rfl) (by rw [HP2.out]), HS3.out, by rw [HP2.out]; exact HE3.out⟩
end Go.Proofs.Yteacmcckhjabmaa.Fq
