/-
  Layer 15: the contract of Of: what packets cost together.
-/
import Derived.Test.YteacmcckhjabmaaPriceDev
import Derived.Test.YteacmcckhjabmaaPackDo
set_option linter.unusedVariables false
namespace Go.Proofs.Yteacmcckhjabmaa.Pc
open Go.RowKit
open Pk (Pt ret_bool IsPts IsPt)
theorem Tb.go_cons (t : Tb) (a : Int) (p : Pt) (l : List Pt) : t.go a (p :: l) = match t.pt p with
    | none => none
    | some c => t.go (a + c) l := rfl
/-- What Of answers. -/
def ofV (x : Option Int) : Value := match x with
  | some n => .tuple #[.int .i64 n, .bool true]
  | none => .tuple #[.int .i64 0, .bool false]
theorem four4 {w : World} {X : Nat} {a b c d : Value} {t : TypeId} (h : w.heap[X]? = some (.cells #[a, b, c, d] t (0, 0))) :
    w.cell? ⟨X, 0, none⟩ = some a ∧ w.cell? ⟨X, 1, none⟩ = some b ∧ w.cell? ⟨X, 2, none⟩ = some c ∧ w.cell? ⟨X, 3, none⟩ = some d := by
  refine ⟨?_, ?_, ?_, ?_⟩ <;> simp [World.cell?, h]
set_option maxHeartbeats 8000000 in
set_option maxRecDepth 100000 in
theorem of_any (t : Tb) (hg : t.good = true) {w : World} {a : Option Addr} {ps : List Pt} (h : IsPts w a ps) (hl : ps.length ≤ 1000) (hd : ∀ p ∈ ps, -9223372036854775808 ≤ p.d ∧ p.d ≤ 9223372036854775807) (cap : Nat) :
    Calls Try.prog 9 #[.agg #[.int .i64 t.l, .int .i64 t.m, .int .i64 t.n, .int .i64 t.f, .int .i64 t.b], .slice a ps.length cap] w fun x w' => x = .returned (ofV (t.go 0 ps)) ∧ Below w.heap.size w w' := by
  have hb1 : Below w.heap.size w (w.alloc (.cells #[.int .i64 t.l, .int .i64 t.m, .int .i64 t.n, .int .i64 t.f, .int .i64 t.b] 25)) := (Below.refl _ _).alloc (Nat.le_refl _) _
  have HX1 := Lib.hid (heap_alloc_new w (.cells #[.int .i64 t.l, .int .i64 t.m, .int .i64 t.n, .int .i64 t.f, .int .i64 t.b] 25))
  have HB1 := Lib.hid hb1
  have HP1 := Lib.hid (h.below hb1)
  have HLE := Lib.hid (fun n W => length_any t n W)
  have HDI := Lib.hid (fun d h0 h1 W => dist_any t hg d h0 h1 W)
  have HG := Lib.hid hg
  have HDD := Lib.hid hd
  have HT := Lib.hid (show t.go 0 ps = t.go 0 ps from rfl)
  obtain ⟨r1, r2, _⟩ := t.good_range hg
  clear hb1 h hg hd
  go_enter Try.func9, Try.ntmps9
  go_upto_region 1 with (fail)
  generalize w.alloc (.cells #[.int .i64 t.l, .int .i64 t.m, .int .i64 t.n, .int .i64 t.f, .int .i64 t.b] 25) = W1 at *
  have HXW : Hid (w.heap.size < W1.heap.size) := Lib.hid (lt_of_heap HX1.out)
  generalize hXe : w.heap.size = X at *
  have HXE := Lib.hid hXe
  clear hXe
  go_wp2_with fail
  go_loopw [6, 11] (fun v i wr => ∃ (k : Nat) (acc : Int), k ≤ ps.length ∧ i = .int .i64 k ∧ v = .int .i64 acc ∧ 0 ≤ acc ∧ acc ≤ 650000 * (k : Int) ∧ t.go acc (ps.drop k) = t.go 0 ps ∧ Below W1.heap.size W1 wr) (fun _ i _ => ps.length - (intOf i).toNat)
  case atStart => exact ⟨0, 0, by omega, rfl, rfl, by omega, by omega, rfl, Below.refl _ _⟩
  case round =>
    obtain ⟨k, acc, hk, rfl, rfl, ha0, ha1, hgo, hb⟩ := hrel
    obtain ⟨wo, rfl⟩ : ∃ wo : World, wo = wr := ⟨_, rfl⟩
    have HB := Lib.hid hb
    clear hb
    by_cases hlt : k < ps.length
    · rw [List.drop_eq_getElem_cons hlt, t.go_cons] at hgo
      have HGO := Lib.hid hgo
      clear hgo
      have hpts := HP1.out.below HB.out
      obtain ⟨g, off, rfl, hcell⟩ := hpts.resolve_left (fun e => by rw [e] at hlt; simp at hlt)
      obtain ⟨c0, c1, c2, c3, _⟩ := hcell k hlt
      have HDK := Lib.hid (HDD.out _ (List.getElem_mem hlt))
      have HPT := Lib.hid (fun (c : Int) (hc : t.pt (ps[k]'hlt) = some c) => t.pt_range HG.out (HDK.out).2 hc)
      clear hcell hpts
      generalize ps[k] = p at *
      have HXo := Lib.hid ((HB.out.block X HXW.out).trans HX1.out)
      have hb2 : Below wo.heap.size wo (wo.alloc (.cells #[.int .i64 p.k, .int .i64 p.d, .int .i64 p.n, .int .u8 (p.b : Int)] 32)) := (Below.refl _ _).alloc (Nat.le_refl _) _
      have HX2 := Lib.hid ((hb2.block X (lt_of_heap HXo.out)).trans HXo.out)
      have HY2 := Lib.hid (heap_alloc_new wo (.cells #[.int .i64 p.k, .int .i64 p.d, .int .i64 p.n, .int .u8 (p.b : Int)] 32))
      have HB2 := Lib.hid (HB.out.trans (hb2.mono HB.out.size))
      clear hb2 HB HXo
      go_upto_region 5 with (fail)
      generalize wo.alloc (.cells #[.int .i64 p.k, .int .i64 p.d, .int .i64 p.n, .int .u8 (p.b : Int)] 32) = W2 at *
      generalize wo.heap.size = Y at *
      clear c0 c1 c2 c3
      obtain ⟨y0, y1, y2, y3⟩ := four4 HY2.out
      obtain ⟨x0, x1, x2, x3, x4⟩ := five HX2.out
      have hle : (ps.length : Int) ≤ 1000 := by omega
      have hk' : (k : Int) < (ps.length : Int) := by omega
      by_cases k1 : p.k = 1
      · have HGK := Lib.hid (show t.go (acc + t.l) (ps.drop (k + 1)) = t.go 0 ps by
          have := HGO.out
          unfold Tb.pt at this
          rw [if_pos k1] at this
          exact this)
        have w1 : wrap64 (acc + t.l) = acc + t.l := by unfold wrap64; omega
        have w2 : IntKind.i64.wrap (acc + t.l) = acc + t.l := by rw [IntKind.wrap_i64]; omega
        clear y1 y2 y3 x1 x2 x3 x4
        go_wp2_with fail
        go_roundw
        case rel => exact ⟨k + 1, acc + t.l, by omega, by go_num, by first | rfl | trivial | rw [w1], by omega, by omega, HGK.out, HB2.out⟩
        case measure => simp [intOf]; omega
      · by_cases k2 : p.k = 2
        · have hc := HPT.out (t.cost p.n p.d) (by unfold Tb.pt; rw [if_neg k1, if_pos k2])
          have HGK := Lib.hid (show t.go (acc + t.cost p.n p.d) (ps.drop (k + 1)) = t.go 0 ps by
            have := HGO.out
            unfold Tb.pt at this
            rw [if_neg k1, if_pos k2] at this
            exact this)
          have hr1 := t.len_range HG.out p.n
          have hr2 := t.dist_range HG.out (HDK.out).2
          have HCO : Hid (t.cost p.n p.d = t.m + t.len p.n + t.dist p.d) := Lib.hid rfl
          have HL := Lib.hid (fun W => HLE.out p.n W)
          have HDD2 := Lib.hid (fun W => HDI.out p.d (HDK.out).1 (HDK.out).2 W)
          rw [HCO.out] at hc HGK
          generalize t.len p.n = L at *
          generalize t.dist p.d = D at *
          have w1 : wrap64 (t.m + L) = t.m + L := by unfold wrap64; omega
          have w2 : wrap64 (t.m + L + D) = t.m + L + D := by unfold wrap64; omega
          have w3 : wrap64 (acc + (t.m + L + D)) = acc + (t.m + L + D) := by unfold wrap64; omega
          have HS : Hid (∀ W', Below W2.heap.size W2 W' → Below W2.heap.size W2 W' ∧ ((W'.cell? ⟨X, 0, none⟩ = some (.int .i64 t.l) ∧ W'.cell? ⟨X, 1, none⟩ = some (.int .i64 t.m) ∧ W'.cell? ⟨X, 2, none⟩ = some (.int .i64 t.n) ∧ W'.cell? ⟨X, 3, none⟩ = some (.int .i64 t.f) ∧ W'.cell? ⟨X, 4, none⟩ = some (.int .i64 t.b)) ∧ (W'.cell? ⟨Y, 0, none⟩ = some (.int .i64 p.k) ∧ W'.cell? ⟨Y, 1, none⟩ = some (.int .i64 p.d) ∧ W'.cell? ⟨Y, 2, none⟩ = some (.int .i64 p.n) ∧ W'.cell? ⟨Y, 3, none⟩ = some (.int .u8 (p.b : Int))))) :=
            Lib.hid (fun W' hW => ⟨hW, five ((hW.block X (lt_of_heap HX2.out)).trans HX2.out), four4 ((hW.block Y (lt_of_heap HY2.out)).trans HY2.out)⟩)
          clear HPT HDK HLE HDI
          go_upto_region 10 with (fail)
          go_region_held3 (fun W' => Below W2.heap.size W2 W' ∧ ((W'.cell? ⟨X, 0, none⟩ = some (.int .i64 t.l) ∧ W'.cell? ⟨X, 1, none⟩ = some (.int .i64 t.m) ∧ W'.cell? ⟨X, 2, none⟩ = some (.int .i64 t.n) ∧ W'.cell? ⟨X, 3, none⟩ = some (.int .i64 t.f) ∧ W'.cell? ⟨X, 4, none⟩ = some (.int .i64 t.b)) ∧ (W'.cell? ⟨Y, 0, none⟩ = some (.int .i64 p.k) ∧ W'.cell? ⟨Y, 1, none⟩ = some (.int .i64 p.d) ∧ W'.cell? ⟨Y, 2, none⟩ = some (.int .i64 p.n) ∧ W'.cell? ⟨Y, 3, none⟩ = some (.int .u8 (p.b : Int))))) ((refine HS.out _ ?_; repeat (first | assumption | exact Below.refl _ _ | refine Pk.bel_drew ?_ | refine Pk.bel_alloc _ ?_ | (refine Pk.bel_new (by assumption) ?_)))) (first | (go_at_call 26; (with_reducible refine (HL.out _).mono ?_); rintro z w6 ⟨rfl, hb6⟩) | (go_at_call 27; (with_reducible refine (HDD2.out _).mono ?_); rintro z w7 ⟨rfl, hb7⟩))
          have HB7 := Lib.hid (HB2.out.trans ((Pk.bel_new hb7 (Pk.bel_new hb6 (Pk.bel_drew (Below.refl W2.heap.size W2)))).mono HB2.out.size))
          have v1 : IntKind.i64.wrap (t.m + L) = t.m + L := by rw [IntKind.wrap_i64]; omega
          have v2 : IntKind.i64.wrap (t.m + L + D) = t.m + L + D := by rw [IntKind.wrap_i64]; omega
          have v3 : IntKind.i64.wrap (acc + (t.m + L + D)) = acc + (t.m + L + D) := by rw [IntKind.wrap_i64]; omega
          have vk : IntKind.i64.wrap ((k : Int) + 1) = (k : Int) + 1 := by rw [IntKind.wrap_i64]; omega
          rw [v1, v2, v3]
          clear hb6 hb7 HS HL HDD2
          go_wp2_with fail
          go_roundw
          case rel => exact ⟨k + 1, acc + (t.m + L + D), by omega, by go_num, rfl, by omega, by omega, HGK.out, HB7.out⟩
          case measure => simp [intOf]; omega
        · have HGK := Lib.hid (show none = t.go 0 ps by
            have := HGO.out
            unfold Tb.pt at this
            rw [if_neg k1, if_neg k2] at this
            exact this)
          clear y1 y2 y3 x0 x1 x2 x3 x4
          go_wp2_with fail
          go_ret2
          exact ⟨by rw [← HGK.out]; rfl, by rw [HXE.out]; exact HB1.out.trans (HB2.out.mono (Nat.le_of_lt HXW.out))⟩
    · obtain rfl : k = ps.length := by omega
      rw [List.drop_length] at hgo
      have HGO := Lib.hid hgo
      clear hgo
      go_wp2_with fail
      go_ret2
      exact ⟨by rw [← HGO.out]; rfl, by rw [HXE.out]; exact HB1.out.trans (HB.out.mono (Nat.le_of_lt HXW.out))⟩
end Go.Proofs.Yteacmcckhjabmaa.Pc
