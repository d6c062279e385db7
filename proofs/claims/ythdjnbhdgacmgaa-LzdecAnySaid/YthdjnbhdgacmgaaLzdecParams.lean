/-
  Layer 11's statements: their params, of three numbers; their first lines (speaks) return true.
-/
import Derived.Test.YthdjnbhdgacmgaaLzEnd
import Derived.Test.YthdjnbhdgacmgaaModelAnyBase
set_option linter.unusedVariables false
set_option linter.unusedSimpArgs false
namespace Go.Proofs.Ythdjnbhdgacmgaa.Lz
open Go.RowKit
open Rc Mo
open Pk (Rp Pt four IsPts)
set_option maxRecDepth 100000 in
theorem params11_any (x0 x1 x2 : Nat) (h0 : x0 < 256) (h1 : x1 < 256) (h2 : x2 < 256) (w : World) :
    Calls Try.prog 8 #[.agg #[.int .u8 (x0 : Int), .int .u8 (x1 : Int), .int .u8 (x2 : Int)]] w fun x w' => x = .returned (.agg #[.int .i64 (parL x0 : Int), .int .i64 (parP x0 x1 : Int), .int .i64 ((x2 % 5 : Nat) : Int)]) ∧ Below w.heap.size w w' := by
  have hb1 : Below w.heap.size w (w.alloc (.cells #[.int .u8 (x0 : Int), .int .u8 (x1 : Int), .int .u8 (x2 : Int)] 22)) := (Below.refl _ _).alloc (Nat.le_refl _) _
  have hz := heap_alloc_new w (.cells #[.int .u8 (x0 : Int), .int .u8 (x1 : Int), .int .u8 (x2 : Int)] 22)
  have hy := heap_alloc_new (w.alloc (.cells #[.int .u8 (x0 : Int), .int .u8 (x1 : Int), .int .u8 (x2 : Int)] 22)) (.cells #[.int .i64 0, .int .i64 0, .int .i64 0] 28)
  have hb2 := hb1.alloc (by simp) (.cells #[.int .i64 0, .int .i64 0, .int .i64 0] 28)
  have hz2 := (Below.heap_alloc (w.alloc (.cells #[.int .u8 (x0 : Int), .int .u8 (x1 : Int), .int .u8 (x2 : Int)] 22)) (.cells #[.int .i64 0, .int .i64 0, .int .i64 0] 28) _ (lt_of_heap hz)).trans hz
  rw [World.size_alloc] at hy
  have e0 := mod5 x0
  have e2 := mod5 x2
  have l0 : x0 % 5 < 5 := Nat.mod_lt _ (by omega)
  have l2 : x2 % 5 < 5 := Nat.mod_lt _ (by omega)
  have e1 := modL (x0 % 5) x1 l0
  have l1 : x1 % (5 - x0 % 5) < 5 := Nat.lt_of_lt_of_le (Nat.mod_lt _ (by omega)) (by omega)
  obtain ⟨a, ha⟩ : ∃ a, a = x0 % 5 := ⟨_, rfl⟩
  obtain ⟨c, hc⟩ : ∃ c, c = x2 % 5 := ⟨_, rfl⟩
  obtain ⟨b, hb⟩ : ∃ b, b = x1 % (5 - a) := ⟨_, rfl⟩
  rw [← ha] at e0 l0 e1 l1
  rw [← hc] at e2 l2
  rw [← hb] at e1 l1
  have HA : Hid (parL x0 = a ∧ parP x0 x1 = b ∧ x2 % 5 = c) := Lib.hid ⟨ha.symm, by unfold parP; rw [← ha, ← hb], hc.symm⟩
  clear ha hb hc
  go_enter Try.func8, Try.ntmps8
  go_upto_region 1 with (fail)
  have HB2 := Lib.hid hb2
  generalize (w.alloc (.cells #[.int .u8 (x0 : Int), .int .u8 (x1 : Int), .int .u8 (x2 : Int)] 22)).alloc (.cells #[.int .i64 0, .int .i64 0, .int .i64 0] 28) = W2 at *
  obtain ⟨p0, p1, p2⟩ := tri hz2
  obtain ⟨q0, q1, q2⟩ := tri hy
  have f0 : W2.frozen? ⟨w.heap.size + 1, 0, none⟩ = false := by simp [World.frozen?, hy]
  have f1 : W2.frozen? ⟨w.heap.size + 1, 1, none⟩ = false := by simp [World.frozen?, hy]
  have f2 : W2.frozen? ⟨w.heap.size + 1, 2, none⟩ = false := by simp [World.frozen?, hy]
  have hpl := lt_of_heap hz2
  clear hb1 hz hb2 
  generalize hPe : w.heap.size = P at *
  go_upto_region 2 with (fail)
  have hne : (5 - (a : Int)) ≠ 0 := by omega
  have w1 : IntKind.i64.wrap (5 - (a : Int)) = 5 - a := by rw [IntKind.wrap_i64]; omega
  have w2 : IntKind.i64.wrap (b : Int) = b := by rw [IntKind.wrap_i64]; omega
  go_region
  all_goals
    go_wp2_with fail
    have b0 := heap_setCell_same W2 _ 0 _ _ (.int .i64 (a : Int)) hy
    have b1 := heap_setCell_same _ _ 1 _ _ (.int .i64 (b : Int)) b0
    have b2 := heap_setCell_same _ _ 2 _ _ (.int .i64 (c : Int)) b1
    have hb3 : Below P w (((W2.setCell ⟨P + 1, 0, none⟩ (.int .i64 (a : Int))).setCell ⟨P + 1, 1, none⟩ (.int .i64 (b : Int))).setCell ⟨P + 1, 2, none⟩ (.int .i64 (c : Int))).drew :=
      Pk.bel_drew (((HB2.out.setCell (p := ⟨P + 1, 0, none⟩) (by simp) _).setCell (p := ⟨P + 1, 1, none⟩) (by simp) _).setCell (p := ⟨P + 1, 2, none⟩) (by simp) _)
    simp at b2
    have b3 : (((W2.setCell ⟨P + 1, 0, none⟩ (.int .i64 (a : Int))).setCell ⟨P + 1, 1, none⟩ (.int .i64 (b : Int))).setCell ⟨P + 1, 2, none⟩ (.int .i64 (c : Int))).drew.heap[P + 1]? = some (.cells #[.int .i64 (a : Int), .int .i64 (b : Int), .int .i64 (c : Int)] 28 (0, 0)) := b2
    generalize (((W2.setCell ⟨P + 1, 0, none⟩ (.int .i64 (a : Int))).setCell ⟨P + 1, 1, none⟩ (.int .i64 (b : Int))).setCell ⟨P + 1, 2, none⟩ (.int .i64 (c : Int))).drew = W3 at *
    clear b0 b1 b2 p0 p1 p2 q0 q1 q2 f0 f1 f2
    obtain ⟨r0, r1, r2⟩ := tri b3
    refine bodyPost_ret (v := .agg #[.int .i64 (a : Int), .int .i64 (b : Int), .int .i64 (c : Int)]) ?_ rfl ?_
    · simp [results, Try.results8, go_sem, r0, r1, r2]
    · rw [HA.out.1, HA.out.2.1, HA.out.2.2, hPe]
      exact ⟨rfl, hb3⟩
theorem read_none : readR 0 0 0 ⟨#[0, 0, 0, 0, 0]⟩ 0 9 = some (mNew 0 0 0, []) := by
  unfold readR
  rw [show mostOf 0 9 = 0 from rfl, show (0 : Int).toNat + 1 = 0 + 1 from rfl, decR_stop (by unfold lacksB mNew; simp), show over ⟨Dec.read (⟨#[0, 0, 0, 0, 0]⟩ : ByteArray).data.toList, qNew⟩ = true from by unfold over; decide +kernel]
  rfl
theorem read_bad : readR 0 0 0 ⟨#[1, 0, 0, 0, 0]⟩ 0 9 = none := by
  unfold readR
  rw [show mostOf 0 9 = 0 from rfl, show (0 : Int).toNat + 1 = 0 + 1 from rfl, decR_stop (by unfold lacksB mNew; simp), show over ⟨Dec.read (⟨#[1, 0, 0, 0, 0]⟩ : ByteArray).data.toList, qNew⟩ = false from by unfold over; decide +kernel]
  rfl
set_option maxRecDepth 100000 in
set_option maxHeartbeats 4000000 in
theorem speaks11 (w : World) : Calls Try.prog 7 #[] w fun x w' => x = .returned (.bool true) ∧ Below w.heap.size w w' := by
  have HP := Lib.hid (packets_any 0 0 0 (by omega) (by omega) ⟨#[0, 0, 0, 0, 0]⟩ (show (5 : Nat) ≤ _ by omega) 0 9 (by omega) (by omega) (by omega) (by omega) w)
  rw [read_none] at HP
  have HD := Lib.hid (fun W => dec_any 0 0 0 (by omega) (by omega) ⟨#[1, 0, 0, 0, 0]⟩ (show (5 : Nat) ≤ _ by omega) 0 9 (by omega) (by omega) (by omega) (by omega) W)
  rw [read_bad] at HD
  have HE := Lib.hid (fun W => dec_err 1 (by omega) 9 0 0 0 9 ⟨#[]⟩ (fun W' fv => decode_bad 9 0 0 (by omega) (by omega) 0 9 (.inl (by decide)) ⟨#[]⟩ fv W') W)
  go_enter Try.func7, Try.ntmps7
  go_wp2_with fail
  refine (show Calls Try.prog 9 #[.string ⟨#[0, 0, 0, 0, 0]⟩, .agg #[.int .i64 0, .int .i64 0, .int .i64 0], .int .i64 0, .int .i64 9] w _ from HP.out).mono ?_
  rintro x w1 h
  rcases h with ⟨_, h, _⟩ | ⟨v, m, acc, rfl, he, hb1, hrow, _⟩
  · cases h
  · simp only [Option.some.injEq, Prod.mk.injEq] at he
    obtain ⟨_, rfl⟩ := he
    obtain ⟨a, cap, rfl, _⟩ := Pl.PtsT.slice (l := []) hrow (by simp)
    have HB1 := Lib.hid hb1
    clear hb1 hrow HP
    go_wp2_with fail
    refine (show Calls Try.prog 10 #[.string ⟨#[1, 0, 0, 0, 0]⟩, .agg #[.int .i64 0, .int .i64 0, .int .i64 0], .int .i64 0, .int .i64 9] w1 _ from HD.out w1).mono ?_
    rintro x w2 ⟨rfl, hb2⟩
    have HB2 := Lib.hid (HB1.out.trans (hb2.mono HB1.out.size))
    clear hb2 HD HB1
    unfold decV
    go_wp2_with fail
    refine (show Calls Try.prog 10 #[.string ⟨#[]⟩, .agg #[.int .i64 9, .int .i64 0, .int .i64 0], .int .i64 0, .int .i64 9] w2 _ from HE.out w2).mono ?_
    rintro x w3 ⟨rfl, hb3⟩
    have HB3 := Lib.hid (HB2.out.trans (hb3.mono HB2.out.size))
    clear hb3 HE HB2
    go_wp2_with fail
    go_ret
    exact ⟨rfl, HB3.out⟩
end Go.Proofs.Ythdjnbhdgacmgaa.Lz
