/-
  The walk of the statement ArenaTypes: for every list of strings it returns true, and writes nothing that was there.
-/
import Derived.Test.YtollngjnoccmfaaArenaStr
import Derived.Test.YtollngjnoccmfaaArenaSpeaks
set_option linter.unusedVariables false
set_option linter.unusedSimpArgs false
namespace Go.Proofs.Ytollngjnoccmfaa.As
open Go.RowKit
open Rc Ar
/-- A list of strings in memory. -/
def IsStrs (w : World) (a : Option Addr) (ss : List ByteArray) : Prop :=
  ss = [] ∨ ∃ b off, a = some ⟨b, off, none⟩ ∧ ∀ i (h : i < ss.length), w.cell? ⟨b, off + i, none⟩ = some (.string ss[i])
/-- A new arena's first cells, each with its list. -/
structure Kept (w : World) (O : Paint) (z : Aren) (ss : List ByteArray) (K k : Nat) : Prop where
  F : z.F = []
  used : z.used = k
  cells : z.cells = K
  each : ∀ i (h : i < ss.length), i < k → ∃ b, z.C (i + 1) = (.slice (some ⟨b, 0, none⟩) 2 2, true) ∧ Blk w O 5 b (.cells #[.string ss[i], .string ⟨#[101, 110, 100]⟩] 9 (0, 0))
theorem Kept.step {cs : List Nat} {w w' : World} {O O' : Paint} {z : Aren} {ss : List ByteArray} {K k : Nat} (h : Kept w O z ss K k) (hs : Step cs w O w' O') (h5 : 5 ∉ cs) : Kept w' O' z ss K k :=
  ⟨h.F, h.used, h.cells, fun i hi hk => by obtain ⟨b, e1, e2⟩ := h.each i hi hk; exact ⟨b, e1, e2.step hs h5⟩⟩
theorem Kept.more {w : World} {O : Paint} {z : Aren} {ss : List ByteArray} {K k b : Nat} (h : Kept w O z ss K k) (hok : z.Ok) (hk : k < ss.length) (hK : k < K) (hb : Blk w O 5 b (.cells #[.string ss[k], .string ⟨#[101, 110, 100]⟩] 9 (0, 0))) : Kept w O (z.take (.slice (some ⟨b, 0, none⟩) 2 2)) ss K (k + 1) ∧ z.next = k + 1 := by
  obtain ⟨t1, t2, t3, t4⟩ := take_new hok h.F (by rw [h.used, h.cells]; exact hK) (.slice (some ⟨b, 0, none⟩) 2 2)
  refine ⟨⟨t2, by rw [t3, h.used], h.cells, fun i hi hik => ?_⟩, by rw [t1, h.used]⟩
  show ∃ b', upd z.C z.next (.slice (some ⟨b, 0, none⟩) 2 2, true) (i + 1) = _ ∧ _
  unfold upd
  rw [t1, h.used]
  by_cases hq : i = k
  · subst hq
    rw [if_pos rfl]
    exact ⟨b, rfl, hb⟩
  · rw [if_neg (by omega)]
    exact h.each i hi (by omega)
abbrev At' (w : World) (O : Paint) (a : Nat) (z : Aren) (B : Nat → Nat) (A : Nat → Array Value) (vp vf : Value) : Prop := ArenaAt w O 1 2 3 4 a 148 213 150 z 0 B A vp vf
set_option maxRecDepth 100000 in
set_option maxHeartbeats 16000000 in
theorem types_walk (a0 : Option Addr) (len cap : Nat) (w : World) (ss : List ByteArray) (hss : ss.length = min len 60) (hcap : len ≤ cap) (hlen : len ≤ maxLen) (h : IsStrs w a0 ss) (h0 : a0 = none → len = 0 ∧ cap = 0) :
    Calls Try.prog 6 #[.slice a0 len cap] w fun x w' => x = .returned (.bool true) ∧ Below w.heap.size w w' := by
  unfold maxLen at hlen
  have HSS := Lib.hid hss
  have HIP := Lib.hid h
  obtain ⟨K, hK⟩ : ∃ K, K = ss.length := ⟨_, rfl⟩
  have HKK := Lib.hid hK
  have hK60 : K ≤ 60 := by omega
  have hKl : K ≤ len := by omega
  have HSP := Lib.hid (fun W => speaks17 W)
  have HNEW := Lib.hid (fun (W : World) => new_any (c1 := 1) (c2 := 2) (c3 := 3) (c4 := 4) (K : Int) (by omega) W (fun _ => 0) (by decide) (fun _ => 0) (fun _ => #[]))
  have key : len ≤ 60 ∧ K = len ∨ 60 < len ∧ K = 60 := by omega
  clear h hss hK
  have main : ∀ (a1 : Option Addr) (W : World), Below w.heap.size w W → IsStrs w a1 ss → True := fun _ _ _ _ => trivial
  clear main
  go_enter Try.func6, Try.ntmps6
  go_wp2_with fail
  refine (HSP.out w).mono ?_
  rintro x w1 ⟨rfl, hb1⟩
  have HB1 := Lib.hid hb1
  clear hb1 HSP
  go_upto_region 3 with (fail)
  go_cut [0] from 13 to 17 (fun v wc => v = .slice a0 K cap ∧ wc = w1)
  case first =>
    as_aux_lemma =>
    clear HIP HSS HKK HNEW HB1
    rcases key with ⟨g1, rfl⟩ | ⟨g1, rfl⟩
    · cases a0 with
      | none =>
        obtain ⟨rfl, rfl⟩ := h0 rfl
        go_wp2_with fail
        go_meet
        exact ⟨rfl, rfl⟩
      | some p =>
        obtain ⟨b, off, sp⟩ := p
        have g2 : ¬ 60 < (K : Int) := by omega
        have g3 : (K : Int) ≤ (cap : Int) := by omega
        have g4 : (0 : Int) ≤ (K : Int) := by omega
        have g5 : (K : Int).toNat = K := rfl
        clear h0
        go_wp2_with fail
        go_meet
        first | exact ⟨rfl, rfl⟩ | (refine ⟨?_, rfl⟩; simp)
    · cases a0 with
      | none => have := h0 rfl; omega
      | some p =>
        obtain ⟨b, off, sp⟩ := p
        have g2 : (60 : Int) < (len : Int) := by omega
        have g3 : (60 : Int) ≤ (cap : Int) := by omega
        clear h0
        go_wp2_with fail
        go_meet
        first | exact ⟨rfl, rfl⟩ | (refine ⟨?_, rfl⟩; simp)
  case rest =>
    obtain ⟨rfl, rfl⟩ := hcut
    clear key
    go_wp2_with fail
    refine (HNEW.out _).mono ?_
    rintro x w2 ⟨O2, a, rfl, hs2, hA2⟩
    rw [show (K : Int).toNat = K from rfl] at hA2
    have HR2 := Lib.hid (run_step ⟨HB1.out, fun _ _ => rfl⟩ hs2 (by simp))
    have HA2 := Lib.hid hA2
    have HK2 : Hid (Kept w2 O2 (zNew K) ss K 0) := Lib.hid ⟨rfl, rfl, rfl, fun i hi hk => by omega⟩
    clear hs2 hA2 HNEW HB1
    go_wp2_with fail
    go_loopw [4] (fun i' wr => ∃ (k : Nat) (z : Aren) (O : Paint) (B : Nat → Nat) (A : Nat → Array Value) (vp vf : Value), k ≤ K ∧ i' = .int .i64 (k : Int) ∧ (Below w.heap.size w wr ∧ ∀ j, j < w.heap.size → O j = 0) ∧ At' wr O a z B A vp vf ∧ Kept wr O z ss K k) (fun i' _ => K - (intOf i').toNat)
    case atStart => exact ⟨0, zNew K, O2, _, _, _, _, by omega, rfl, HR2.out, HA2.out, HK2.out⟩
    case round =>
      clear HR2 HA2 HK2
      obtain ⟨k, z, O, B, A, vp, vf, hk, rfl, hR, hA, hKp⟩ := hrel
      by_cases hlt : k < K
      · have hki : k < ss.length := by rw [← HKK.out]; exact hlt
        have HA := Lib.hid hA
        have HKp := Lib.hid hKp
        have HR := Lib.hid hR
        clear hA hKp hR
        have hk0 : (0 : Int) ≤ (k : Int) := by omega
        have hkn : (k : Int).toNat = k := rfl
        have hkl : (k : Int) < (K : Int) := by omega
        have hkw : wrap64 ((k : Int) + 1) = (k : Int) + 1 := by unfold wrap64; omega
        have hkv : IntKind.i64.wrap ((k : Int) + 1) = (k : Int) + 1 := by rw [IntKind.wrap_i64]; omega
        have hw1 : wrap64 ((K : Int) - (k : Int)) = (K : Int) - (k : Int) := by unfold wrap64; omega
        have hw2 : wrap64 ((K : Int) - (k : Int) - 1) = (K : Int) - (k : Int) - 1 := by unfold wrap64; omega
        have hv1 : IntKind.i64.wrap ((K : Int) - (k : Int)) = (K : Int) - (k : Int) := by rw [IntKind.wrap_i64]; omega
        have hv2 : IntKind.i64.wrap ((K : Int) - (k : Int) - 1) = (K : Int) - (k : Int) - 1 := by rw [IntKind.wrap_i64]; omega
        rcases HIP.out with he | ⟨b0, off, rfl, hc⟩
        · rw [he] at hki; simp at hki
        · have hb0 := World.block_lt_of_cell? _ _ (hc k hki)
          have c0 : wr.cell? ⟨b0, off + k, none⟩ = some (.string ss[k]) := (World.cell?_of_block (HR.out.1.block b0 hb0)).trans (hc k hki)
          have hs5 : Step [] wr O (wr.alloc (.cells #[.string ss[k], .string ⟨#[101, 110, 100]⟩] 9)) (Step.paint O wr 5) := Step.of_below ((Below.refl _ _).alloc (Nat.le_refl _) _) O 5
          obtain ⟨hM1, hM2⟩ := (HKp.out.step hs5 (by simp)).more HA.out.ok hki hlt ⟨heap_alloc_new _ _, Step.paint_new (Nat.le_refl _)⟩
          have HTK := Lib.hid (As.take_any (z := z) (HA.out.idle hs5) (by unfold Aren.left; rw [HKp.out.used, HKp.out.cells, HKp.out.F]; simp; omega) (by rw [HKp.out.used]; omega) (some ⟨wr.heap.size, 0, none⟩) 2 2)
          rw [show (z.next : Int) = (k : Int) + 1 by rw [hM2]; rfl] at HTK
          have HM1 := Lib.hid hM1
          have HR5 := Lib.hid (run_step HR.out hs5 (by simp))
          have HLE : Hid ((z.take (.slice (some ⟨wr.heap.size, 0, none⟩) 2 2)).left = (K : Int) - (k : Int) - 1) := Lib.hid (by unfold Aren.left; rw [hM1.used, hM1.cells, hM1.F]; simp; omega)
          clear hM1 hM2 hs5 HA HKp HR hc HSS HKK HIP h0
          generalize ss[k] = s at *
          clear hki
          generalize z.take (.slice (some ⟨wr.heap.size, 0, none⟩) 2 2) = z' at *
          go_wp2_with fail
          refine HTK.out.mono ?_
          rintro x w5 ⟨rfl, O5, B5, A5, vp5, vf5, hs6, hA5⟩
          have HA5 := Lib.hid hA5
          have HR6 := Lib.hid (run_step HR5.out hs6 (by decide))
          have HM6 := Lib.hid (HM1.out.step hs6 (by decide))
          clear hs6 hA5 HTK HM1 HR5 c0
          go_wp2_with fail
          refine (As.left_any HA5.out).mono ?_
          rintro x w6 ⟨rfl, n, rfl⟩
          rw [HLE.out]
          have HR7 := Lib.hid (run_step HR6.out ((Step.refl [] w5 O5).drewN n) (by simp))
          have HA7 := Lib.hid (drewN_at HA5.out n)
          have HM7 := Lib.hid (HM6.out.step ((Step.refl [] w5 O5).drewN n) (by simp))
          clear HR6 HM6 HA5
          generalize w5.drewN n = W7 at *
          go_wp2_with fail
          go_roundw
          case rel => exact ⟨k + 1, z', O5, B5, A5, vp5, vf5, by omega, by go_num, HR7.out, HA7.out, HM7.out⟩
          case measure => simp [intOf]; omega
      · obtain rfl : k = K := by omega
        have HA := Lib.hid hA
        have HKp := Lib.hid hKp
        have HR := Lib.hid hR
        clear hA hKp hR
        obtain ⟨WA, hWA⟩ : ∃ W', W' = wr := ⟨_, rfl⟩
        rw [← hWA] at HA HKp HR ⊢
        clear hWA
        go_wp2_with fail
        go_loopw [7] (fun i' W => ∃ (j : Nat), j ≤ k ∧ i' = .int .i64 (j : Int) ∧ Step [] WA O W O) (fun i' _ => k - (intOf i').toNat)
        case atStart => exact ⟨0, by omega, rfl, Step.refl [] WA O⟩
        case round =>
          obtain ⟨j, hj, rfl, hS⟩ := hrel
          by_cases hlt2 : j < k
          · have hki : j < ss.length := by rw [← HKK.out]; exact hlt2
            have HS := Lib.hid hS
            clear hS
            have hk0 : (0 : Int) ≤ (j : Int) := by omega
            have hkn : (j : Int).toNat = j := rfl
            have hkl : (j : Int) < (k : Int) := by omega
            have hkw : wrap64 ((j : Int) + 1) = (j : Int) + 1 := by unfold wrap64; omega
            have hkv : IntKind.i64.wrap ((j : Int) + 1) = (j : Int) + 1 := by rw [IntKind.wrap_i64]; omega
            rcases HIP.out with he | ⟨b0, off, rfl, hc⟩
            · rw [he] at hki; simp at hki
            · have hb0 := World.block_lt_of_cell? _ _ (hc j hki)
              obtain ⟨b, hC, hB⟩ := HKp.out.each j hki hlt2
              have HTB : z.takenB ((j : Int) + 1) = true := by
                unfold Aren.takenB
                rw [HKp.out.used, show ((j : Int) + 1).toNat = j + 1 from rfl, hC]
                simp
                omega
              have HAT := Lib.hid (As.at_any (HA.out.idle HS.out) ((j : Int) + 1) rfl)
              rw [if_pos HTB, show ((j : Int) + 1).toNat = j + 1 from rfl] at HAT
              have HCS := Lib.hid (fun (W : World) (hs : Step [] WA O W O) => show W.cell? ⟨B (lg (j + 1)), 2 * pk (j + 1), none⟩ = some (.slice (some ⟨b, 0, none⟩) 2 2) ∧ W.cell? ⟨b, 0, none⟩ = some (.string ss[j]) ∧ W.cell? ⟨b0, off + j, none⟩ = some (.string ss[j]) from by
                have e1 := ((HA.out.idle hs).two (i := j + 1) (by omega) (by rw [HKp.out.used]; omega) (by omega)).1
                rw [hC] at e1
                exact ⟨e1, (hB.step hs (by simp)).cell 0, (World.cell?_of_block ((run_step HR.out hs (by simp)).1.block b0 hb0)).trans (hc j hki)⟩)
              clear HTB hC hB hc HSS HKK HIP h0 HKp HA HR
              generalize ss[j] = s at *
              clear hki
              generalize B (lg (j + 1)) = bb at *
              generalize 2 * pk (j + 1) = oo at *
              go_wp2_with fail
              refine HAT.out.mono ?_
              rintro x w5 ⟨rfl, n, rfl⟩
              obtain ⟨g1, g2, g3⟩ := HCS.out _ (HS.out.drewN n)
              have HS2 := Lib.hid (HS.out.drewN n)
              clear HS HAT
              generalize wr.drewN n = W5 at *
              go_upto_region 15 with (fail)
              go_quiet (fail)
              go_wp2_with fail
              go_roundw
              case rel => exact ⟨j + 1, by omega, by go_num, by first | exact HS2.out | exact HS2.out.drew | exact HS2.out.drewN _⟩
              case measure => simp [intOf]; omega
          · obtain rfl : j = k := by omega
            have HTB : Hid (z.takenB ((j : Int) + 1) = false) := Lib.hid (by
              unfold Aren.takenB
              rw [HKp.out.used]
              simp
              omega)
            have HTN := Lib.hid (As.take_none (HA.out.idle hS) (by unfold Aren.left; rw [HKp.out.used, HKp.out.cells, HKp.out.F]; simp) (.slice none 0 0))
            have HAT := Lib.hid (fun n => As.at_any (drewN_at (HA.out.idle hS) n) ((j : Int) + 1) rfl)
            rw [HTB.out, if_neg (by simp)] at HAT
            have HB9 := Lib.hid (fun n => (run_step HR.out (hS.drewN n) (by simp)).1)
            have hkw : wrap64 ((j : Int) + 1) = (j : Int) + 1 := by unfold wrap64; omega
            have hkv : IntKind.i64.wrap ((j : Int) + 1) = (j : Int) + 1 := by rw [IntKind.wrap_i64]; omega
            have hjj : ¬ (j : Int) < (j : Int) := by omega
            clear HKp HA HR HSS HKK HIP h0 HTB hS
            go_wp2_with fail
            refine HTN.out.mono ?_
            rintro x w5 ⟨rfl, n, rfl⟩
            go_wp2_with fail
            refine (HAT.out n).mono ?_
            rintro x w6 ⟨rfl, m, rfl⟩
            go_wp2_with fail
            go_ret
            exact ⟨rfl, HB9.out (n + m)⟩
end Go.Proofs.Ytollngjnoccmfaa.As
