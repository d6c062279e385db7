/-
  The walk of the statement PriceTells: for every table and numbers it returns true, and writes nothing that was there.
-/
import Derived.Test.YtomkmfapnfnmlaaPriceSpeaks
set_option linter.unusedVariables false
namespace Go.Proofs.Ytomkmfapnfnmlaa.Pc
open Go.RowKit
set_option maxRecDepth 100000 in
set_option maxHeartbeats 8000000 in
theorem tells_walk (t : Tb) (n d : Int) (w : World) (hd0 : -9223372036854775808 ≤ d) (hd1 : d ≤ 9223372036854775807) :
    Calls Try.prog 4 #[.agg #[.int .i64 t.l, .int .i64 t.m, .int .i64 t.n, .int .i64 t.f, .int .i64 t.b], .int .i64 n, .int .i64 d] w fun x w' => x = .returned (.bool true) ∧ Below w.heap.size w w' := by
  have hb1 : Below w.heap.size w (w.alloc (.cells #[.int .i64 t.l, .int .i64 t.m, .int .i64 t.n, .int .i64 t.f, .int .i64 t.b] 42)) := (Below.refl _ _).alloc (Nat.le_refl _) _
  have HX1 := Lib.hid (heap_alloc_new w (.cells #[.int .i64 t.l, .int .i64 t.m, .int .i64 t.n, .int .i64 t.f, .int .i64 t.b] 42))
  have HB1 := Lib.hid hb1
  clear hb1
  go_enter Try.func4, Try.ntmps4
  go_upto_region 1 with (fail)
  generalize w.alloc (.cells #[.int .i64 t.l, .int .i64 t.m, .int .i64 t.n, .int .i64 t.f, .int .i64 t.b] 42) = W1 at *
  have HXS := Lib.hid HB1.out.size
  generalize hXe : w.heap.size = X at *
  have HXE := Lib.hid hXe
  clear hXe
  go_wp2_with fail
  refine (speaks15 _).mono ?_
  rintro x w2 ⟨rfl, hb2⟩
  have HX2 := Lib.hid ((hb2.block X (lt_of_heap HX1.out)).trans HX1.out)
  have HB2 := Lib.hid (HB1.out.trans (hb2.mono HXS.out))
  have HXS2 := Lib.hid (Nat.le_trans HXS.out hb2.size)
  clear hb2 HX1 HB1
  obtain ⟨x0, x1, x2, x3, x4⟩ := five HX2.out
  have hb3 : Below w2.heap.size w2 (w2.alloc (.cells #[.int .i64 t.l, .int .i64 t.m, .int .i64 t.n, .int .i64 t.f, .int .i64 t.b] 43)) := (Below.refl _ _).alloc (Nat.le_refl _) _
  have HX3 := Lib.hid ((hb3.block X (lt_of_heap HX2.out)).trans HX2.out)
  have HY3 := Lib.hid (heap_alloc_new w2 (.cells #[.int .i64 t.l, .int .i64 t.m, .int .i64 t.n, .int .i64 t.f, .int .i64 t.b] 43))
  have HB3 := Lib.hid (HB2.out.trans (hb3.mono HXS2.out))
  have HXS3 := Lib.hid (Nat.le_trans HXS2.out hb3.size)
  clear hb3 HX2 HB2
  go_upto_region 4 with (fail)
  generalize w2.alloc (.cells #[.int .i64 t.l, .int .i64 t.m, .int .i64 t.n, .int .i64 t.f, .int .i64 t.b] 43) = W3 at *
  generalize w2.heap.size = Y at *
  clear x0 x1 x2 x3 x4
  have HS : Hid (∀ W', Below W3.heap.size W3 W' → Below W3.heap.size W3 W' ∧ ((W'.cell? ⟨X, 0, none⟩ = some (.int .i64 t.l) ∧ W'.cell? ⟨X, 1, none⟩ = some (.int .i64 t.m) ∧ W'.cell? ⟨X, 2, none⟩ = some (.int .i64 t.n) ∧ W'.cell? ⟨X, 3, none⟩ = some (.int .i64 t.f) ∧ W'.cell? ⟨X, 4, none⟩ = some (.int .i64 t.b)) ∧ (W'.cell? ⟨Y, 0, none⟩ = some (.int .i64 t.l) ∧ W'.cell? ⟨Y, 1, none⟩ = some (.int .i64 t.m) ∧ W'.cell? ⟨Y, 2, none⟩ = some (.int .i64 t.n) ∧ W'.cell? ⟨Y, 3, none⟩ = some (.int .i64 t.f) ∧ W'.cell? ⟨Y, 4, none⟩ = some (.int .i64 t.b)))) :=
    Lib.hid (fun W' hW => ⟨hW, five ((hW.block X (lt_of_heap HX3.out)).trans HX3.out), five ((hW.block Y (lt_of_heap HY3.out)).trans HY3.out)⟩)
  have HGA := Lib.hid (good_any t)
  have HGR := Lib.hid (rgood_any t)
  have HLN := Lib.hid (fun W => length_any t n W)
  have HG : Hid (t.good = true → (0 ≤ t.dist d ∧ t.dist d ≤ 630000) ∧ ∀ W, Calls Try.prog 17 #[.agg #[.int .i64 t.l, .int .i64 t.m, .int .i64 t.n, .int .i64 t.f, .int .i64 t.b], .int .i64 d] W fun x w' => x = .returned (.int .i64 (t.dist d)) ∧ Below W.heap.size W w') := Lib.hid (fun hg => ⟨t.dist_range hg hd1, fun W => dist_any t hg d hd0 hd1 W⟩)
  generalize hgd : t.good = gd at *
  have HGD := Lib.hid hgd
  clear hgd
  obtain ⟨⟨x0, x1, x2, x3, x4⟩, ⟨y0, y1, y2, y3, y4⟩⟩ := (HS.out W3 (Below.refl _ _)).2
  go_region_held3 (fun W' => Below W3.heap.size W3 W' ∧ ((W'.cell? ⟨X, 0, none⟩ = some (.int .i64 t.l) ∧ W'.cell? ⟨X, 1, none⟩ = some (.int .i64 t.m) ∧ W'.cell? ⟨X, 2, none⟩ = some (.int .i64 t.n) ∧ W'.cell? ⟨X, 3, none⟩ = some (.int .i64 t.f) ∧ W'.cell? ⟨X, 4, none⟩ = some (.int .i64 t.b)) ∧ (W'.cell? ⟨Y, 0, none⟩ = some (.int .i64 t.l) ∧ W'.cell? ⟨Y, 1, none⟩ = some (.int .i64 t.m) ∧ W'.cell? ⟨Y, 2, none⟩ = some (.int .i64 t.n) ∧ W'.cell? ⟨Y, 3, none⟩ = some (.int .i64 t.f) ∧ W'.cell? ⟨Y, 4, none⟩ = some (.int .i64 t.b)))) ((refine HS.out _ ?_; repeat (first | assumption | exact Below.refl _ _ | refine Pk.bel_drew ?_ | refine Pk.bel_alloc _ ?_ | (refine Pk.bel_new (by assumption) ?_)))) (first | (go_at_call 14; (with_reducible refine (HGA.out _).mono ?_); rintro z w6 ⟨rfl, hb6⟩) | (go_at_call 15; (with_reducible refine (HGR.out _).mono ?_); rintro z w7 ⟨rfl, hb7⟩))
  have HBA := Lib.hid (Pk.bel_new hb7 (Pk.bel_new hb6 (Pk.bel_drew (Below.refl W3.heap.size W3))))
  clear hb6 hb7 x0 x1 x2 x3 x4 y0 y1 y2 y3 y4 HGR
  obtain ⟨⟨x0, x1, x2, x3, x4⟩, ⟨y0, y1, y2, y3, y4⟩⟩ := (HS.out w7 HBA.out).2
  go_wp2_with fail
  refine (HGA.out _).mono ?_
  rintro x w8 ⟨rfl, hb8⟩
  have HBB := Lib.hid (Pk.bel_new hb8 HBA.out)
  clear hb8 HBA x0 x1 x2 x3 x4 y0 y1 y2 y3 y4 HGA
  obtain ⟨⟨x0, x1, x2, x3, x4⟩, ⟨y0, y1, y2, y3, y4⟩⟩ := (HS.out w8 HBB.out).2
  cases gd with
  | false =>
    go_wp2_with fail
    go_ret
    exact ⟨rfl, by rw [HXE.out]; exact HB3.out.trans (HBB.out.mono HXS3.out)⟩
  | true =>
    obtain ⟨hdr, hdi⟩ := HG.out rfl
    have HBI := Lib.hid (bits_any d hd0 hd1)
    have HDE : Hid (t.dist d = t.b * (dbits d : Int)) := Lib.hid rfl
    have HLE : Hid (t.len n = if n < 10 then t.n else t.f) := Lib.hid rfl
    rw [HDE.out] at hdr hdi
    rw [HLE.out] at HLN
    have HDI := Lib.hid hdi
    clear hdi HG
    generalize dbits d = q at *
    have v1 : IntKind.i64.wrap (t.b * (q : Int)) = t.b * (q : Int) := by rw [IntKind.wrap_i64]; omega
    by_cases hn : n < 10
    case' pos => rw [if_pos hn] at HLN
    case' neg => rw [if_neg hn] at HLN
    all_goals
      go_upto_region 11 with (fail)
      go_region_held3 (fun W' => Below W3.heap.size W3 W' ∧ ((W'.cell? ⟨X, 0, none⟩ = some (.int .i64 t.l) ∧ W'.cell? ⟨X, 1, none⟩ = some (.int .i64 t.m) ∧ W'.cell? ⟨X, 2, none⟩ = some (.int .i64 t.n) ∧ W'.cell? ⟨X, 3, none⟩ = some (.int .i64 t.f) ∧ W'.cell? ⟨X, 4, none⟩ = some (.int .i64 t.b)) ∧ (W'.cell? ⟨Y, 0, none⟩ = some (.int .i64 t.l) ∧ W'.cell? ⟨Y, 1, none⟩ = some (.int .i64 t.m) ∧ W'.cell? ⟨Y, 2, none⟩ = some (.int .i64 t.n) ∧ W'.cell? ⟨Y, 3, none⟩ = some (.int .i64 t.f) ∧ W'.cell? ⟨Y, 4, none⟩ = some (.int .i64 t.b)))) ((refine HS.out _ ?_; repeat (first | assumption | exact HBB.out | exact Below.refl _ _ | refine Pk.bel_drew ?_ | refine Pk.bel_alloc _ ?_ | (refine Pk.bel_new (by assumption) ?_)))) (first | (go_at_call 16; (with_reducible refine (HLN.out _).mono ?_); rintro z w9 ⟨rfl, hb9⟩) | (go_at_call 17; (with_reducible refine (HDI.out _).mono ?_); rintro z w10 ⟨rfl, hb10⟩) | (go_at_call 18; (with_reducible refine (HBI.out _).mono ?_); rintro z w11 ⟨rfl, rfl⟩))
      have HBC := Lib.hid (Pk.bel_new hb10 (Pk.bel_new hb9 (Pk.bel_drew HBB.out)))
      clear hb9 hb10
      go_wp2_with fail
      go_ret
      exact ⟨rfl, by rw [HXE.out]; exact HB3.out.trans (HBC.out.mono HXS3.out)⟩
end Go.Proofs.Ytomkmfapnfnmlaa.Pc
