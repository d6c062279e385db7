/-
  The walk of the statement PpmAny: for all bytes, orders, cells and numbers it returns true, and writes nothing that was there.
-/
import Derived.Test.YtjeppcaniafgpaaPpmSpeaks
set_option linter.unusedVariables false
set_option linter.unusedSimpArgs false
namespace Go.Proofs.Ytjeppcaniafgpaa.Pp
open Go.RowKit
open Fq Cx
theorem decP_len : ∀ (n : Nat) (r : Rw) (z : Rc.Dec) (l : List Nat) (y : Rw × Rc.Dec × List Nat), decP n r z l = some y → y.2.2.length = l.length + n
  | 0, r, z, l, y, h => by
    simp only [decP, Option.some.injEq] at h
    subst h
    rfl
  | n + 1, r, z, l, y, h => by
    unfold decP at h
    split at h
    · cases h
    · have := decP_len n _ _ _ y h
      rw [this]
      simp
      omega
theorem decV_len {b : List UInt8} {o c : Int} {n : Nat} {l : List Nat} (h : decV b o c n = some l) : l.length = n := by
  unfold decV endV at h
  split at h
  · cases h
  · rename_i y hy
    split at h
    · cases h
      have := decP_len n _ _ _ y hy
      simpa using this
    · cases h
set_option maxRecDepth 100000 in
set_option maxHeartbeats 1000000 in
theorem any_walk (t : ByteArray) (o c n : Int) (w : World) (ht : t.size ≤ maxLen) (hn : -9223372036854775808 ≤ n ∧ n ≤ 9223372036854775807) :
    Calls Try.prog 8 #[.string t, .agg #[.int .i64 o, .int .i64 c, .int .i64 n]] w fun x w' => x = .returned (.bool true) ∧ Below w.heap.size w w' := by
  unfold maxLen at ht
  have HSP := Lib.hid (fun (W : World) => speaks19 W)
  go_enter Try.func8, Try.ntmps8
  go_upto_region 1 with (fail)
  have hbw : Below w.heap.size w (w.alloc (.cells #[.int .i64 o, .int .i64 c, .int .i64 n] 68)) := (Below.refl _ _).alloc (Nat.le_refl _) _
  have hnw := heap_alloc_new w (.cells #[.int .i64 o, .int .i64 c, .int .i64 n] 68)
  have hsz : w.heap.size < (w.alloc (.cells #[.int .i64 o, .int .i64 c, .int .i64 n] 68)).heap.size := by simp
  have HX := Lib.hid (And.intro hbw (And.intro hnw hsz))
  clear hbw hnw hsz
  generalize w.alloc (.cells #[.int .i64 o, .int .i64 c, .int .i64 n] 68) = w0 at *
  go_wp2_with fail
  refine (HSP.out w0).mono ?_
  rintro x w1 ⟨rfl, hb1⟩
  have HB1 := Lib.hid (HX.out.1.trans (hb1.mono HX.out.1.size))
  have hblk := (hb1.block w.heap.size HX.out.2.2).trans HX.out.2.1
  have c0 : w1.cell? ⟨w.heap.size, 0, none⟩ = some (.int .i64 o) := by simp [World.cell?, hblk]
  have c1 : w1.cell? ⟨w.heap.size, 1, none⟩ = some (.int .i64 c) := by simp [World.cell?, hblk]
  have c2 : w1.cell? ⟨w.heap.size, 2, none⟩ = some (.int .i64 n) := by simp [World.cell?, hblk]
  clear hblk hb1 HX HSP
  go_upto_region 4 with (fail)
  have hmm : (if (100 : Int) < (t.size : Int) then (100 : Int) else (t.size : Int)) = min (t.size : Int) 100 := by split <;> omega
  try rw [hmm]
  clear hmm
  have hus : (t.extract 0 (min (t.size : Int) 100).toNat).size ≤ 100 := by simp; omega
  generalize min (t.size : Int) 100 = mn at *
  generalize t.extract 0 mn.toNat = s at *
  by_cases h1 : n < 0
  · have g1 : decide (n < 0) = true := decide_eq_true h1
    have g2 : ¬ 3000 < n := by omega
    have g3 : decide (3000 < n) = false := decide_eq_false g2
    have HD := Lib.hid (fun (W : World) => dec_param s o c n W (.inl h1))
    go_wp2_with fail
    refine (HD.out w1).mono ?_
    rintro x w2 ⟨rfl, hb2⟩
    have HB2 := Lib.hid (HB1.out.trans (hb2.mono HB1.out.size))
    clear hb2
    go_wp2_with fail
    go_ret
    exact ⟨rfl, HB2.out⟩
  by_cases h2 : 16777216 < n
  · have g1 : decide (n < 0) = false := decide_eq_false h1
    have g2 : 3000 < n := by omega
    have g3 : decide (3000 < n) = true := decide_eq_true g2
    have g4 : decide (16777216 < n) = true := decide_eq_true h2
    have g5 : ¬ n ≤ 16777216 := by omega
    have g6 : decide (n ≤ 16777216) = false := decide_eq_false g5
    have HD := Lib.hid (fun (W : World) => dec_param s o c n W (.inr h2))
    go_wp2_with fail
    refine (HD.out w1).mono ?_
    rintro x w2 ⟨rfl, hb2⟩
    have HB2 := Lib.hid (HB1.out.trans (hb2.mono HB1.out.size))
    clear hb2
    go_wp2_with fail
    go_ret
    exact ⟨rfl, HB2.out⟩
  by_cases h3 : 3000 < n
  · have g1 : decide (n < 0) = false := decide_eq_false h1
    have g3 : decide (3000 < n) = true := decide_eq_true h3
    have g5 : n ≤ 16777216 := by omega
    have g6 : decide (n ≤ 16777216) = true := decide_eq_true g5
    obtain ⟨NN, hNN⟩ : ∃ NN : Nat, n % 3000 = (NN : Int) := ⟨(n % 3000).toNat, by omega⟩
    have hN3 : NN < 3000 := by omega
    have ht3 : Int.tmod n 3000 = (NN : Int) := by rw [Int.tmod_eq_emod_of_nonneg (by omega)]; exact hNN
    have g7 : ¬ (NN : Int) < 0 := by omega
    have g8 : decide ((NN : Int) < 0) = false := decide_eq_false g7
    have g9 : ¬ 16777216 < (NN : Int) := by omega
    have g10 : decide (16777216 < (NN : Int)) = false := decide_eq_false g9
    have HDI := Lib.hid (fun (W : World) => dec_in s o c NN W (by omega) (by omega))
    cases hv : decV s.data.toList o c NN with
    | none =>
      rw [hv] at HDI
      have HD := Lib.hid (fun (W : World) => show Calls Try.prog 32 #[.string s, .int .i64 o, .int .i64 c, .int .i64 (NN : Int)] W (DecTo W ⟨#[]⟩ 6) from HDI.out W)
      clear HDI hv
      go_wp2_with fail
      refine (HD.out w1).mono ?_
      rintro x w2 ⟨rfl, hb2⟩
      have HB2 := Lib.hid (HB1.out.trans (hb2.mono HB1.out.size))
      clear hb2
      go_wp2_with fail
      go_ret
      exact ⟨rfl, HB2.out⟩
    | some l =>
      have hl := decV_len hv
      rw [hv] at HDI
      have hsz : (strV (some l)).size = NN := by rw [← hl]; simp [strV, ByteArray.size]
      have HD := Lib.hid (fun (W : World) => show Calls Try.prog 32 #[.string s, .int .i64 o, .int .i64 c, .int .i64 (NN : Int)] W (DecTo W (strV (some l)) 0) from HDI.out W)
      generalize strV (some l) = T at *
      subst hsz
      clear HDI hv hl
      go_wp2_with fail
      refine (HD.out w1).mono ?_
      rintro x w2 ⟨rfl, hb2⟩
      have HB2 := Lib.hid (HB1.out.trans (hb2.mono HB1.out.size))
      clear hb2
      go_wp2_with fail
      go_ret
      exact ⟨rfl, HB2.out⟩
  · have g1 : decide (n < 0) = false := decide_eq_false h1
    have g3 : decide (3000 < n) = false := decide_eq_false h3
    obtain ⟨NN, rfl⟩ : ∃ NN : Nat, n = (NN : Int) := ⟨n.toNat, by omega⟩
    have g9 : ¬ 16777216 < (NN : Int) := by omega
    have g10 : decide (16777216 < (NN : Int)) = false := decide_eq_false g9
    have HDI := Lib.hid (fun (W : World) => dec_in s o c NN W (by omega) (by omega))
    cases hv : decV s.data.toList o c NN with
    | none =>
      rw [hv] at HDI
      have HD := Lib.hid (fun (W : World) => show Calls Try.prog 32 #[.string s, .int .i64 o, .int .i64 c, .int .i64 (NN : Int)] W (DecTo W ⟨#[]⟩ 6) from HDI.out W)
      clear HDI hv
      go_wp2_with fail
      refine (HD.out w1).mono ?_
      rintro x w2 ⟨rfl, hb2⟩
      have HB2 := Lib.hid (HB1.out.trans (hb2.mono HB1.out.size))
      clear hb2
      go_wp2_with fail
      go_ret
      exact ⟨rfl, HB2.out⟩
    | some l =>
      have hl := decV_len hv
      rw [hv] at HDI
      have hsz : (strV (some l)).size = NN := by rw [← hl]; simp [strV, ByteArray.size]
      have HD := Lib.hid (fun (W : World) => show Calls Try.prog 32 #[.string s, .int .i64 o, .int .i64 c, .int .i64 (NN : Int)] W (DecTo W (strV (some l)) 0) from HDI.out W)
      generalize strV (some l) = T at *
      subst hsz
      clear HDI hv hl
      go_wp2_with fail
      refine (HD.out w1).mono ?_
      rintro x w2 ⟨rfl, hb2⟩
      have HB2 := Lib.hid (HB1.out.trans (hb2.mono HB1.out.size))
      clear hb2
      go_wp2_with fail
      go_ret
      exact ⟨rfl, HB2.out⟩
end Go.Proofs.Ytjeppcaniafgpaa.Pp
