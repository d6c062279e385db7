/-
  The walk of the statement LzdecAny: for all bytes and numbers it returns true, and writes nothing that was there.
-/
import Derived.Test.YthdjnbhdgacmgaaLzAnyMath
import Derived.Test.YthdjnbhdgacmgaaLzdecParams
import Derived.Deep.CutBlock
import Derived.Deep.DeepCutAuto
import Derived.Deep.RegionHeld3
set_option linter.unusedVariables false
set_option linter.unusedSimpArgs false
namespace Go.Proofs.Ythdjnbhdgacmgaa.Lz
open Go.RowKit
open Rc Mo
open Pk (Rp Pt four IsPts applyL)
theorem xcells {w : World} {X : Nat} {a b c d e f : Value} {t : TypeId} (h : w.heap[X]? = some (.cells #[a, b, c, d, e, f] t (0, 0))) :
    w.cell? ⟨X, 0, none⟩ = some a ∧ w.cell? ⟨X, 1, none⟩ = some b ∧ w.cell? ⟨X, 2, none⟩ = some c ∧ w.cell? ⟨X, 3, none⟩ = some d ∧ w.cell? ⟨X, 4, none⟩ = some e ∧ w.cell? ⟨X, 5, none⟩ = some f :=
  ⟨by simp [World.cell?, h], by simp [World.cell?, h], by simp [World.cell?, h], by simp [World.cell?, h], by simp [World.cell?, h], by simp [World.cell?, h]⟩
/-- What stands behind the law's first lines. -/
def Asked (w0 : World) (lc lp pb : Nat) (n : Int) (mo : Nat) (a b c d : Value) (wc : World) : Prop :=
  ∃ (s : ByteArray) (Y : Nat), s.size ≤ 80 ∧ a = .string s ∧ b = .pointer (some ⟨Y, 0, none⟩) ∧ c = .int .i64 n ∧ d = .int .i64 (mo : Int) ∧ Below w0.heap.size w0 wc ∧ wc.heap[Y]? = some (.cells #[.int .i64 (lc : Int), .int .i64 (lp : Int), .int .i64 (pb : Int)] 28 (0, 0))
set_option maxRecDepth 100000 in
set_option maxHeartbeats 8000000 in
theorem lzany_walk (S : ByteArray) (hS : S.size ≤ maxLen) (x0 x1 x2 : Nat) (h0 : x0 < 256) (h1 : x1 < 256) (h2 : x2 < 256) (n : Int) (hn0 : -9223372036854775808 ≤ n) (hn1 : n ≤ 9223372036854775807) (mo : Nat) (hm : mo < 65536) (w : World) :
    Calls Try.prog 3 #[.agg #[.string S, .int .u8 (x0 : Int), .int .u8 (x1 : Int), .int .u8 (x2 : Int), .int .i64 n, .int .u16 (mo : Int)]] w fun x w' => x = .returned (.bool true) ∧ Below w.heap.size w w' := by
  unfold maxLen at hS
  have hb1 : Below w.heap.size w (w.alloc (.cells #[.string S, .int .u8 (x0 : Int), .int .u8 (x1 : Int), .int .u8 (x2 : Int), .int .i64 n, .int .u16 (mo : Int)] 25)) := (Below.refl _ _).alloc (Nat.le_refl _) _
  have hz := heap_alloc_new w (.cells #[.string S, .int .u8 (x0 : Int), .int .u8 (x1 : Int), .int .u8 (x2 : Int), .int .i64 n, .int .u16 (mo : Int)] 25)
  have HPA := Lib.hid (fun W => params11_any x0 x1 x2 h0 h1 h2 W)
  have HSUM := Lib.hid (par_sum x0 x1)
  have HPB : Hid (x2 % 5 ≤ 4) := Lib.hid (by omega)
  generalize parL x0 = lc at *
  generalize parP x0 x1 = lp at *
  generalize x2 % 5 = pb at *
  have HB1 := Lib.hid hb1
  clear hb1 h0 h1 h2
  go_enter Try.func3, Try.ntmps3
  go_upto_region 1 with (fail)
  generalize w.alloc (.cells #[.string S, .int .u8 (x0 : Int), .int .u8 (x1 : Int), .int .u8 (x2 : Int), .int .i64 n, .int .u16 (mo : Int)] 25) = W1 at *
  generalize hP : w.heap.size = P at *
  have hPl := lt_of_heap hz
  go_wp2_with fail
  refine (speaks11 W1).mono ?_
  rintro x W2 ⟨rfl, hb2⟩
  have hz2 := (hb2.block P hPl).trans hz
  have HB2 := Lib.hid (HB1.out.trans (hb2.mono (by have := HB1.out.size; omega)))
  have hPl := lt_of_heap hz2
  have HZ2 := Lib.hid hz2
  clear hb2 HB1 hz hz2
  go_upto_region 3 with (fail)
  go_cut [3, 4, 5, 6] (fun a b c d wc => Asked W2 lc lp pb n (mo % 600) a b c d wc)
  case first =>
    as_aux_lemma =>
    have HS : Hid (∀ W', Below W2.heap.size W2 W' → Below W2.heap.size W2 W' ∧ (W'.cell? ⟨P, 0, none⟩ = some (.string S) ∧ W'.cell? ⟨P, 1, none⟩ = some (.int .u8 (x0 : Int)) ∧ W'.cell? ⟨P, 2, none⟩ = some (.int .u8 (x1 : Int)) ∧ W'.cell? ⟨P, 3, none⟩ = some (.int .u8 (x2 : Int)) ∧ W'.cell? ⟨P, 4, none⟩ = some (.int .i64 n) ∧ W'.cell? ⟨P, 5, none⟩ = some (.int .u16 (mo : Int)))) := Lib.hid fun W' hb => ⟨hb, xcells ((hb.block P hPl).trans HZ2.out)⟩
    have e1 : (0 : Int) ≤ min (S.size : Int) 80 := by omega
    have e2 : min (S.size : Int) 80 ≤ (S.size : Int) := by omega
    have e3 : Int.tmod (mo : Int) 600 = ((mo % 600 : Nat) : Int) := by rw [Int.tmod_eq_emod_of_nonneg (by omega)]; omega
    have e4 : IntKind.i64.wrap (mo : Int) = (mo : Int) := by rw [IntKind.wrap_i64]; omega
    have e5 : IntKind.i64.wrap ((mo % 600 : Nat) : Int) = ((mo % 600 : Nat) : Int) := by rw [IntKind.wrap_i64]; omega
    go_region_held3 (fun W' => Below W2.heap.size W2 W' ∧ (W'.cell? ⟨P, 0, none⟩ = some (.string S) ∧ W'.cell? ⟨P, 1, none⟩ = some (.int .u8 (x0 : Int)) ∧ W'.cell? ⟨P, 2, none⟩ = some (.int .u8 (x1 : Int)) ∧ W'.cell? ⟨P, 3, none⟩ = some (.int .u8 (x2 : Int)) ∧ W'.cell? ⟨P, 4, none⟩ = some (.int .i64 n) ∧ W'.cell? ⟨P, 5, none⟩ = some (.int .u16 (mo : Int)))) ((refine HS.out _ ?_; repeat (first | assumption | exact Below.refl _ _ | refine Pk.bel_drew ?_ | refine Pk.bel_alloc _ ?_ | (refine Pk.bel_set _ (by first | omega | (simp; omega) | simp) ?_) | (refine Pk.bel_new (by assumption) ?_)))) (first | (go_at_call 8; (with_reducible refine (HPA.out _).mono ?_); rintro x wp ⟨rfl, hbp⟩; have zp := hbp.size; (try simp at zp); (try have ak1 : wp.heap[W2.heap.size]? = some (Obj.cells #[.int .i64 0, .int .i64 0, .int .i64 0] 28 (0, 0)) := by first | exact Pk.alloc_kept hbp | exact Pk.alloc_kept2 hbp); (try (have q2 := six_cells ak1; obtain ⟨y0, y1, y2, g0, g1, g2⟩ := q2))))
    all_goals
      have hbw : Below W2.heap.size W2 wp := by first | exact Pk.bel_new hbp (Pk.bel_drew (Below.refl _ _)) | exact Pk.bel_new hbp (Pk.bel_drew (Pk.bel_alloc _ (Below.refl _ _))) | exact Pk.bel_new hbp (Pk.bel_alloc _ (Pk.bel_drew (Below.refl _ _)))
      have hsz : (S.extract 0 (min (S.size : Int) 80).toNat).size ≤ 80 := by simp; omega
      go_wp2_with fail
      go_meet
      first
      | exact ⟨_, wp.heap.size, hsz, rfl, rfl, rfl, by simp, Pk.bel_alloc _ hbw, heap_alloc_new _ _⟩
      | (have b0 := heap_setCell_same wp _ 0 _ _ (.int .i64 (lc : Int)) ak1
         have b1 := heap_setCell_same _ _ 1 _ _ (.int .i64 (lp : Int)) b0
         have b2 := heap_setCell_same _ _ 2 _ _ (.int .i64 (pb : Int)) b1
         simp at b2
         exact ⟨_, W2.heap.size, hsz, rfl, rfl, rfl, by simp, Pk.bel_set _ (Nat.le_refl _) (Pk.bel_set _ (Nat.le_refl _) (Pk.bel_set _ (Nat.le_refl _) hbw)), b2⟩)
  case rest =>
    obtain ⟨s, Y, hs, rfl, rfl, rfl, rfl, hb3, hY⟩ := hcut
    have HB3 := Lib.hid (HB2.out.trans (hb3.mono (by have := HB2.out.size; omega)))
    have hmo : mo % 600 < 600 := Nat.mod_lt _ (by omega)
    have HYC := Lib.hid hY
    have hYl := lt_of_heap hY
    obtain ⟨p0, p1, p2⟩ := three_cells hY
    generalize mo % 600 = M at *
    clear hb3 hY HB2 HZ2 HPA hPl
    have HPBO := HPB.out
    by_cases hlim : (M : Int) < n
    · have HPK := Lib.hid (fun W => pk_err 4 (by omega) lc lp pb n (M : Int) s (fun W' fv => decode_long lc lp pb HSUM.out HPBO n (M : Int) (by omega) hlim s fv W') W)
      have HDE := Lib.hid (fun W => dec_err 4 (by omega) lc lp pb n (M : Int) s (fun W' fv => decode_long lc lp pb HSUM.out HPBO n (M : Int) (by omega) hlim s fv W') W)
      have hd1 : decide ((M : Int) < n) = true := decide_eq_true hlim
      as_aux_lemma =>
      go_wp2_with fail
      refine (HPK.out wc).mono ?_
      rintro x w4 ⟨rfl, hb4⟩
      have HB4 := Lib.hid (HB3.out.trans (hb4.mono (by have := HB3.out.size; omega)))
      obtain ⟨p0, p1, p2⟩ := three_cells ((hb4.block Y hYl).trans HYC.out)
      clear hb4 HPK HB3
      go_wp2_with fail
      refine (HDE.out w4).mono ?_
      rintro x w5 ⟨rfl, hb5⟩
      have HB5 := Lib.hid (HB4.out.trans (hb5.mono (by have := HB4.out.size; omega)))
      clear hb5 HDE HB4 p0 p1 p2
      go_wp2_with fail
      go_ret
      exact ⟨rfl, by rw [hP]; exact HB5.out⟩
    · have HPK := Lib.hid (fun W => packets_any lc lp pb HSUM.out HPBO s (by omega) n (M : Int) (by omega) (by omega) (by omega) hn0 W)
      have HDE := Lib.hid (fun W => dec_any lc lp pb HSUM.out HPBO s (by omega) n (M : Int) (by omega) (by omega) (by omega) hn0 W)
      have HRT := Lib.hid (fun m acc (h : readR lc lp pb s n (M : Int) = some (m, acc)) => read_tells (by omega) (by omega) h)
      have hd1 : decide ((M : Int) < n) = false := decide_eq_false hlim
      obtain ⟨R, hR⟩ : ∃ R, R = readR lc lp pb s n (M : Int) := ⟨_, rfl⟩
      rw [← hR] at HPK HDE HRT
      clear hR
      as_aux_lemma =>
      go_wp2_with fail
      refine (HPK.out wc).mono ?_
      rintro x w4 h
      clear HPK
      rcases h with ⟨rfl, rfl, hb4⟩ | ⟨v, m, acc, rfl, rfl, hb4, hrow, hby⟩
      · have HB4 := Lib.hid (HB3.out.trans (hb4.mono (by have := HB3.out.size; omega)))
        obtain ⟨p0, p1, p2⟩ := three_cells ((hb4.block Y hYl).trans HYC.out)
        clear hb4 HB3 HRT
        go_wp2_with fail
        refine (HDE.out w4).mono ?_
        rintro x w5 ⟨rfl, hb5⟩
        have HB5 := Lib.hid (HB4.out.trans (hb5.mono (by have := HB4.out.size; omega)))
        clear hb5 HDE HB4 p0 p1 p2
        unfold decV
        go_wp2_with fail
        go_ret
        exact ⟨rfl, by rw [hP]; exact HB5.out⟩
      · have HB4 := Lib.hid (HB3.out.trans (hb4.mono (by have := HB3.out.size; omega)))
        obtain ⟨p0, p1, p2⟩ := three_cells ((hb4.block Y hYl).trans HYC.out)
        obtain ⟨a, cap, rfl, hpts⟩ := Pl.PtsT.slice (l := acc) hrow hby
        obtain ⟨t1, t2, t3, t4⟩ := HRT.out m acc rfl
        have HT4 := Lib.hid t4
        have HT2 := Lib.hid t2
        have HPTS := Lib.hid hpts
        have HAP := Lib.hid (fun W (h : IsPts W a acc) => Pk.apply_any h (by omega) cap (M : Int) (by omega))
        rw [t1] at HAP
        have hsz : ((⟨m.l.toArray⟩ : ByteArray).size : Int) = (m.l.length : Int) := rfl
        clear hb4 HB3 HRT hpts hrow hby t1 t2 t3 t4
        go_wp2_with fail
        refine (HDE.out w4).mono ?_
        rintro x w5 ⟨rfl, hb5⟩
        have HB5 := Lib.hid (HB4.out.trans (hb5.mono (by have := HB4.out.size; omega)))
        have HP5 := Lib.hid (HPTS.out.below hb5)
        clear hb5 HDE HB4 p0 p1 p2 HPTS
        unfold decV
        simp only
        generalize (⟨m.l.toArray⟩ : ByteArray) = tx at *
        go_wp2_with fail
        refine (HAP.out w5 HP5.out).mono ?_
        rintro x w6 ⟨rfl, hb6⟩
        have HB6 := Lib.hid (HB5.out.trans (hb6.mono (by have := HB5.out.size; omega)))
        clear hb6 HAP HB5 HP5
        have hle : decide ((tx.size : Int) ≤ (M : Int)) = true := by rw [decide_eq_true_eq, hsz]; exact HT2.out
        have htt : (tx.toList == tx.toList) = true := by simp
        rcases HT4.out with h | h
        · have hn1 : decide (n < 0) = true := decide_eq_true h
          have hle2 : (m.l.length : Int) ≤ (M : Int) := HT2.out
          go_wp2_with fail
          all_goals (first | (go_ret; exact ⟨rfl, by rw [hP]; exact HB6.out⟩) | (exfalso; omega))
        · have hn1 : decide (n < 0) = false := decide_eq_false (by omega)
          have hnn : ((tx.size : Int) == n) = true := by rw [beq_iff_eq, hsz]; exact h
          go_wp2_with fail
          all_goals (first | (go_ret; exact ⟨rfl, by rw [hP]; exact HB6.out⟩) | (exfalso; omega))
end Go.Proofs.Ythdjnbhdgacmgaa.Lz
