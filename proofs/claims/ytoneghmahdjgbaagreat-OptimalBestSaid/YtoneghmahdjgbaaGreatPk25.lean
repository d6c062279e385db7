/-
  Layer 15: the contract of Of: what packets cost together.
  Layer 15's statements: their first lines return true.
  Package packet: Repeat of an empty list.
  Package greedy: the contract of Parse.
-/
import Derived.Test.YtoneghmahdjgbaaGreatPk15
import Derived.Test.YtoneghmahdjgbaaGreatPk18
import Derived.Test.YtoneghmahdjgbaaGreatPk20
import Derived.Test.YtoneghmahdjgbaaGreatPk23
import Derived.Deep.RegionHeld3
import Derived.StillTailTactics
section
set_option linter.unusedVariables false
namespace Go.Proofs.YtoneghmahdjgbaaGreat.Pc
open Go.RowKit
open Pk (Pt ret_bool IsPts IsPt)
theorem Tb.go_cons (t : Tb) (a : Int) (p : Pt) (l : List Pt) : t.go a (p :: l) = match t.pt p with
    | none => none
    | some c => t.go (a + c) l := rfl
/-- What Of answers. -/
def ofV (x : Option Int) : Value := match x with
  | some n => .tuple #[.int .i64 n, .bool true]
  | none => .tuple #[.int .i64 0, .bool false]
theorem four4 {w : World} {X : Nat} {a b c d : Value} {t : TypeId} (h : w.heap[X]? = some (.cells #[a, b, c, d] t (0, 0))) :
    w.cell? ⟨X, 0, none⟩ = some a ∧ w.cell? ⟨X, 1, none⟩ = some b ∧ w.cell? ⟨X, 2, none⟩ = some c ∧ w.cell? ⟨X, 3, none⟩ = some d := by
  refine ⟨?_, ?_, ?_, ?_⟩ <;> simp [World.cell?, h]
set_option maxHeartbeats 8000000 in
set_option maxRecDepth 100000 in
theorem of_any (t : Tb) (hg : t.good = true) {w : World} {a : Option Addr} {ps : List Pt} (h : IsPts w a ps) (hl : ps.length ≤ 1000) (hd : ∀ p ∈ ps, -9223372036854775808 ≤ p.d ∧ p.d ≤ 9223372036854775807) (cap : Nat) :
    Calls Tryz.prog 7 #[.agg #[.int .i64 t.l, .int .i64 t.m, .int .i64 t.n, .int .i64 t.f, .int .i64 t.b], .slice a ps.length cap] w fun x w' => x = .returned (ofV (t.go 0 ps)) ∧ Below w.heap.size w w' := by
  have hb1 : Below w.heap.size w (w.alloc (.cells #[.int .i64 t.l, .int .i64 t.m, .int .i64 t.n, .int .i64 t.f, .int .i64 t.b] 25)) := (Below.refl _ _).alloc (Nat.le_refl _) _
  have HX1 := Lib.hid (heap_alloc_new w (.cells #[.int .i64 t.l, .int .i64 t.m, .int .i64 t.n, .int .i64 t.f, .int .i64 t.b] 25))
  have HB1 := Lib.hid hb1
  have HP1 := Lib.hid (h.below hb1)
  have HLE := Lib.hid (fun n W => length_any t n W)
  have HDI := Lib.hid (fun d h0 h1 W => dist_any t hg d h0 h1 W)
  have HG := Lib.hid hg
  have HDD := Lib.hid hd
  have HT := Lib.hid (show t.go 0 ps = t.go 0 ps from rfl)
  obtain ⟨r1, r2, _⟩ := t.good_range hg
  clear hb1 h hg hd
  go_enter Tryz.func7, Tryz.ntmps7
  go_upto_region 1 with (fail)
  generalize w.alloc (.cells #[.int .i64 t.l, .int .i64 t.m, .int .i64 t.n, .int .i64 t.f, .int .i64 t.b] 25) = W1 at *
  have HXW : Hid (w.heap.size < W1.heap.size) := Lib.hid (lt_of_heap HX1.out)
  generalize hXe : w.heap.size = X at *
  have HXE := Lib.hid hXe
  clear hXe
  go_wp2_with fail
  go_loopw [6, 11] (fun v i wr => ∃ (k : Nat) (acc : Int), k ≤ ps.length ∧ i = .int .i64 k ∧ v = .int .i64 acc ∧ 0 ≤ acc ∧ acc ≤ 650000 * (k : Int) ∧ t.go acc (ps.drop k) = t.go 0 ps ∧ Below W1.heap.size W1 wr) (fun _ i _ => ps.length - (intOf i).toNat)
  case atStart => exact ⟨0, 0, by omega, rfl, rfl, by omega, by omega, rfl, Below.refl _ _⟩
  case round =>
    obtain ⟨k, acc, hk, rfl, rfl, ha0, ha1, hgo, hb⟩ := hrel
    obtain ⟨wo, rfl⟩ : ∃ wo : World, wo = wr := ⟨_, rfl⟩
    have HB := Lib.hid hb
    clear hb
    by_cases hlt : k < ps.length
    · rw [List.drop_eq_getElem_cons hlt, t.go_cons] at hgo
      have HGO := Lib.hid hgo
      clear hgo
      have hpts := HP1.out.below HB.out
      obtain ⟨g, off, rfl, hcell⟩ := hpts.resolve_left (fun e => by rw [e] at hlt; simp at hlt)
      obtain ⟨c0, c1, c2, c3, _⟩ := hcell k hlt
      have HDK := Lib.hid (HDD.out _ (List.getElem_mem hlt))
      have HPT := Lib.hid (fun (c : Int) (hc : t.pt (ps[k]'hlt) = some c) => t.pt_range HG.out (HDK.out).2 hc)
      clear hcell hpts
      generalize ps[k] = p at *
      have HXo := Lib.hid ((HB.out.block X HXW.out).trans HX1.out)
      have hb2 : Below wo.heap.size wo (wo.alloc (.cells #[.int .i64 p.k, .int .i64 p.d, .int .i64 p.n, .int .u8 (p.b : Int)] 33)) := (Below.refl _ _).alloc (Nat.le_refl _) _
      have HX2 := Lib.hid ((hb2.block X (lt_of_heap HXo.out)).trans HXo.out)
      have HY2 := Lib.hid (heap_alloc_new wo (.cells #[.int .i64 p.k, .int .i64 p.d, .int .i64 p.n, .int .u8 (p.b : Int)] 33))
      have HB2 := Lib.hid (HB.out.trans (hb2.mono HB.out.size))
      clear hb2 HB HXo
      go_upto_region 5 with (fail)
      generalize wo.alloc (.cells #[.int .i64 p.k, .int .i64 p.d, .int .i64 p.n, .int .u8 (p.b : Int)] 33) = W2 at *
      generalize wo.heap.size = Y at *
      clear c0 c1 c2 c3
      obtain ⟨y0, y1, y2, y3⟩ := four4 HY2.out
      obtain ⟨x0, x1, x2, x3, x4⟩ := five HX2.out
      have hle : (ps.length : Int) ≤ 1000 := by omega
      have hk' : (k : Int) < (ps.length : Int) := by omega
      by_cases k1 : p.k = 1
      · have HGK := Lib.hid (show t.go (acc + t.l) (ps.drop (k + 1)) = t.go 0 ps by
          have := HGO.out
          unfold Tb.pt at this
          rw [if_pos k1] at this
          exact this)
        have w1 : wrap64 (acc + t.l) = acc + t.l := by unfold wrap64; omega
        have w2 : IntKind.i64.wrap (acc + t.l) = acc + t.l := by rw [IntKind.wrap_i64]; omega
        clear y1 y2 y3 x1 x2 x3 x4
        go_wp2_with fail
        go_roundw
        case rel => exact ⟨k + 1, acc + t.l, by omega, by go_num, by first | rfl | trivial | rw [w1], by omega, by omega, HGK.out, HB2.out⟩
        case measure => simp [intOf]; omega
      · by_cases k2 : p.k = 2
        · have hc := HPT.out (t.cost p.n p.d) (by unfold Tb.pt; rw [if_neg k1, if_pos k2])
          have HGK := Lib.hid (show t.go (acc + t.cost p.n p.d) (ps.drop (k + 1)) = t.go 0 ps by
            have := HGO.out
            unfold Tb.pt at this
            rw [if_neg k1, if_pos k2] at this
            exact this)
          have hr1 := t.len_range HG.out p.n
          have hr2 := t.dist_range HG.out (HDK.out).2
          have HCO : Hid (t.cost p.n p.d = t.m + t.len p.n + t.dist p.d) := Lib.hid rfl
          have HL := Lib.hid (fun W => HLE.out p.n W)
          have HDD2 := Lib.hid (fun W => HDI.out p.d (HDK.out).1 (HDK.out).2 W)
          rw [HCO.out] at hc HGK
          generalize t.len p.n = L at *
          generalize t.dist p.d = D at *
          have w1 : wrap64 (t.m + L) = t.m + L := by unfold wrap64; omega
          have w2 : wrap64 (t.m + L + D) = t.m + L + D := by unfold wrap64; omega
          have w3 : wrap64 (acc + (t.m + L + D)) = acc + (t.m + L + D) := by unfold wrap64; omega
          have HS : Hid (∀ W', Below W2.heap.size W2 W' → Below W2.heap.size W2 W' ∧ ((W'.cell? ⟨X, 0, none⟩ = some (.int .i64 t.l) ∧ W'.cell? ⟨X, 1, none⟩ = some (.int .i64 t.m) ∧ W'.cell? ⟨X, 2, none⟩ = some (.int .i64 t.n) ∧ W'.cell? ⟨X, 3, none⟩ = some (.int .i64 t.f) ∧ W'.cell? ⟨X, 4, none⟩ = some (.int .i64 t.b)) ∧ (W'.cell? ⟨Y, 0, none⟩ = some (.int .i64 p.k) ∧ W'.cell? ⟨Y, 1, none⟩ = some (.int .i64 p.d) ∧ W'.cell? ⟨Y, 2, none⟩ = some (.int .i64 p.n) ∧ W'.cell? ⟨Y, 3, none⟩ = some (.int .u8 (p.b : Int))))) :=
            Lib.hid (fun W' hW => ⟨hW, five ((hW.block X (lt_of_heap HX2.out)).trans HX2.out), four4 ((hW.block Y (lt_of_heap HY2.out)).trans HY2.out)⟩)
          clear HPT HDK HLE HDI
          go_upto_region 10 with (fail)
          go_region_held3 (fun W' => Below W2.heap.size W2 W' ∧ ((W'.cell? ⟨X, 0, none⟩ = some (.int .i64 t.l) ∧ W'.cell? ⟨X, 1, none⟩ = some (.int .i64 t.m) ∧ W'.cell? ⟨X, 2, none⟩ = some (.int .i64 t.n) ∧ W'.cell? ⟨X, 3, none⟩ = some (.int .i64 t.f) ∧ W'.cell? ⟨X, 4, none⟩ = some (.int .i64 t.b)) ∧ (W'.cell? ⟨Y, 0, none⟩ = some (.int .i64 p.k) ∧ W'.cell? ⟨Y, 1, none⟩ = some (.int .i64 p.d) ∧ W'.cell? ⟨Y, 2, none⟩ = some (.int .i64 p.n) ∧ W'.cell? ⟨Y, 3, none⟩ = some (.int .u8 (p.b : Int))))) ((refine HS.out _ ?_; repeat (first | assumption | exact Below.refl _ _ | refine Pk.bel_drew ?_ | refine Pk.bel_alloc _ ?_ | (refine Pk.bel_new (by assumption) ?_)))) (first | (go_at_call 19; (with_reducible refine (HL.out _).mono ?_); rintro z w6 ⟨rfl, hb6⟩) | (go_at_call 20; (with_reducible refine (HDD2.out _).mono ?_); rintro z w7 ⟨rfl, hb7⟩))
          have HB7 := Lib.hid (HB2.out.trans ((Pk.bel_new hb7 (Pk.bel_new hb6 (Pk.bel_drew (Below.refl W2.heap.size W2)))).mono HB2.out.size))
          have v1 : IntKind.i64.wrap (t.m + L) = t.m + L := by rw [IntKind.wrap_i64]; omega
          have v2 : IntKind.i64.wrap (t.m + L + D) = t.m + L + D := by rw [IntKind.wrap_i64]; omega
          have v3 : IntKind.i64.wrap (acc + (t.m + L + D)) = acc + (t.m + L + D) := by rw [IntKind.wrap_i64]; omega
          have vk : IntKind.i64.wrap ((k : Int) + 1) = (k : Int) + 1 := by rw [IntKind.wrap_i64]; omega
          rw [v1, v2, v3]
          clear hb6 hb7 HS HL HDD2
          go_wp2_with fail
          go_roundw
          case rel => exact ⟨k + 1, acc + (t.m + L + D), by omega, by go_num, rfl, by omega, by omega, HGK.out, HB7.out⟩
          case measure => simp [intOf]; omega
        · have HGK := Lib.hid (show none = t.go 0 ps by
            have := HGO.out
            unfold Tb.pt at this
            rw [if_neg k1, if_neg k2] at this
            exact this)
          clear y1 y2 y3 x0 x1 x2 x3 x4
          go_wp2_with fail
          go_ret2
          exact ⟨by rw [← HGK.out]; rfl, by rw [HXE.out]; exact HB1.out.trans (HB2.out.mono (Nat.le_of_lt HXW.out))⟩
    · obtain rfl : k = ps.length := by omega
      rw [List.drop_length] at hgo
      have HGO := Lib.hid hgo
      clear hgo
      go_wp2_with fail
      go_ret2
      exact ⟨by rw [← HGO.out]; rfl, by rw [HXE.out]; exact HB1.out.trans (HB.out.mono (Nat.le_of_lt HXW.out))⟩
end Go.Proofs.YtoneghmahdjgbaaGreat.Pc
end
section
set_option linter.unusedVariables false
namespace Go.Proofs.YtoneghmahdjgbaaGreat.Pc
open Go.RowKit
open Pk (Pt IsPts IsPt)
def common : Tb := ⟨34, 20, 16, 36, 5⟩
theorem common_good : common.good = true := by decide
theorem common_any (w : World) : Calls Tryz.prog 14 #[] w fun x w' => x = .returned (.agg #[.int .i64 34, .int .i64 20, .int .i64 16, .int .i64 36, .int .i64 5]) ∧ Below w.heap.size w w' := by
  go_enter Tryz.func14, Tryz.ntmps14
  go_wp2_with fail
  have HB := Lib.hid (((Below.refl w.heap.size w).alloc (Nat.le_refl _) (.cells #[.int .i64 34, .int .i64 20, .int .i64 16, .int .i64 36, .int .i64 5] 25)))
  obtain ⟨p0, p1, p2, p3, p4⟩ := five (heap_alloc_new w (.cells #[.int .i64 34, .int .i64 20, .int .i64 16, .int .i64 36, .int .i64 5] 25))
  generalize w.alloc (.cells #[.int .i64 34, .int .i64 20, .int .i64 16, .int .i64 36, .int .i64 5] 25) = W1 at *
  refine bodyPost_ret (v := .agg #[.int .i64 34, .int .i64 20, .int .i64 16, .int .i64 36, .int .i64 5]) ?_ rfl ?_
  · simp [results, Tryz.results14, go_sem, p0, p1, p2, p3, p4]
  · exact ⟨rfl, HB.out⟩
def mb : List Pt := [⟨2, 3, 4, 0⟩, ⟨1, 0, 0, 0⟩]
end Go.Proofs.YtoneghmahdjgbaaGreat.Pc
end
section
namespace Go.Proofs.YtoneghmahdjgbaaGreat.Pk
open Go.RowKit
theorem repeat_nil (a : Option Addr) (cap : Nat) (W : World) :
    Calls Tryz.prog 11 #[.slice a 0 cap] W fun x w' => ∃ Z, x = .returned (.slice (some ⟨Z, 0, none⟩) 0 0) ∧ Below W.heap.size W w' ∧ W.heap.size ≤ Z := by
  have mk0 : ∀ w, (Instr.makeSlice 26 (.int .i64 0) (.int .i64 0)).run Tryz.prog w = .ok (.slice (some ⟨w.heap.size, 0, none⟩) 0 0) (w.alloc (.cells #[] 33)) := fun w => by kernel_rfl
  have HF1 := Lib.hid (show ∀ w1, Calls Tryz.prog 23 #[] w1 fun x w' => x = .returned (.agg #[.int .i64 1, .int .i64 1, .int .i64 1, .int .i64 1]) ∧ Below w1.heap.size w1 w' from fun w1 => first_any w1)
  go_enter Tryz.func11, Tryz.ntmps11
  go_wp2_with fail
  have HB1 := Lib.hid ((Below.refl _ W).alloc (Nat.le_refl _) (.cells #[] 33))
  generalize W.alloc (.cells #[] 33) = W1 at *
  clear mk0
  refine (HF1.out W1).mono ?_
  rintro x w2 ⟨rfl, hb2⟩
  have HB2 := Lib.hid (bel_new hb2 HB1.out)
  clear hb2 HB1
  go_wp2_with fail
  refine (HF1.out w2).mono ?_
  rintro x w3 ⟨rfl, hb3⟩
  have HB3 := Lib.hid (bel_alloc (.cells #[.int .i64 1, .int .i64 1, .int .i64 1, .int .i64 1] 57) (bel_alloc (.cells #[.int .i64 1, .int .i64 1, .int .i64 1, .int .i64 1] 57) (bel_new hb3 HB2.out)))
  clear hb3 HB2 HF1
  go_wp2_with fail
  generalize (w3.alloc (.cells #[.int .i64 1, .int .i64 1, .int .i64 1, .int .i64 1] 57)).alloc (.cells #[.int .i64 1, .int .i64 1, .int .i64 1, .int .i64 1] 57) = W4 at *
  go_loop [20] (fun i => i = .int .i64 0) (fun i => 1)
  case atStart => rfl
  case round =>
    subst hrel
    go_wp2
    go_ret
    exact ⟨_, rfl, HB3.out, Nat.le_refl _⟩
end Go.Proofs.YtoneghmahdjgbaaGreat.Pk
end
section
set_option linter.unusedVariables false
namespace Go.Proofs.YtoneghmahdjgbaaGreat.Gr
open Go.RowKit
open Mt
open Ch (foundL bt bt_at bt_lt)
open Pk (Rp Pt IsPts repL)
open Mo (HeldP)
/-- A finder of pieces and a list of packets, since w0. -/
structure GrAt (w0 w : World) (O : Paint) (F : Nat) (s : ByteArray) (window cut : Int) (p : Nat) (v : Value) (l : List Pt) : Prop where
  below : Below w0.heap.size w0 w
  clear : Clear w0.heap.size O
  pi : PiAt w O F s window cut p
  held : HeldP w O 7 v l
section
variable {cs : List Nat} {w0 w w' : World} {O O' : Paint} {F p : Nat} {s : ByteArray} {window cut : Int} {v : Value} {l : List Pt}
theorem GrAt.step (h : GrAt w0 w O F s window cut p v l) (hs : Step cs w O w' O') (h0 : 0 ∉ cs) (h1 : 1 ∉ cs) (h2 : 2 ∉ cs) (h7 : 7 ∉ cs) : GrAt w0 w' O' F s window cut p v l :=
  ⟨h.clear.below hs h0 h.below.size h.below, h.clear.step hs h.below.size, h.pi.step hs h1 h2, h.held.step hs h7⟩
theorem GrAt.idle (h : GrAt w0 w O F s window cut p v l) (hs : Step [] w O w' O') : GrAt w0 w' O' F s window cut p v l := h.step hs (by simp) (by simp) (by simp) (by simp)
theorem GrAt.news (h : GrAt w0 w O F s window cut p v l) (hb : Below w.heap.size w w') : GrAt w0 w' (Step.paint O w 3) F s window cut p v l := h.idle (Step.of_below hb O 3)
theorem GrAt.next (h : GrAt w0 w O F s window cut p v l) {q : Nat} (hs : Step [1] w O w' O') (hp : PiAt w' O' F s window cut q) : GrAt w0 w' O' F s window cut q v l :=
  ⟨h.clear.below hs (by simp) h.below.size h.below, h.clear.step hs h.below.size, hp, h.held.step hs (by simp)⟩
theorem GrAt.more {o : Obj} {g n cap : Nat} {q : Pt} (h : GrAt w0 w O F s window cut p v l) (hn : l.length = n) (hr : w'.ownsRow 0 33 4 (.slice (some ⟨g, 0, none⟩) (n + 1) cap) (n + 1) (Pl.flatP l ++ [.int .i64 q.k, .int .i64 q.d, .int .i64 q.n, .int .u8 (q.b : Int)])) (hg : (w.alloc o).grownBy w' v.ownBlock) (hm : Moved (w.alloc o) v (.slice (some ⟨g, 0, none⟩) (n + 1) cap)) :
    GrAt w0 w' (Step.paint O w 7) F s window cut p (.slice (some ⟨g, 0, none⟩) (n + 1) cap) (l ++ [q]) ∧ Step [7] w O w' (Step.paint O w 7) := by
  obtain ⟨hs, hh⟩ := h.held.more hn hr hg hm
  exact ⟨⟨h.clear.below hs (by simp) h.below.size h.below, h.clear.step hs h.below.size, h.pi.step hs (by simp) (by simp), hh⟩, hs⟩
end
/-- A list of packets was handed back. -/
def Told (w : World) (qs : List Pt) (x : Ending) (w' : World) : Prop := ∃ Z, x = .returned (.slice (some ⟨Z, 0, none⟩) qs.length qs.length) ∧ Below w.heap.size w w' ∧ IsPts w' (some ⟨Z, 0, none⟩) qs
theorem again_any {w0 w : World} {a : Option Addr} {ps : List Pt} {cap : Nat} (hb0 : Below w0.heap.size w0 w) (h : IsPts w a ps) (hl : ps.length ≤ 1000) (hb : ∀ p ∈ repL ps 0 ⟨1, 1, 1, 1⟩ ⟨1, 1, 1, 1⟩, p.b < 256) (hlen : (repL ps 0 ⟨1, 1, 1, 1⟩ ⟨1, 1, 1, 1⟩).length = ps.length) :
    Calls Tryz.prog 11 #[.slice a ps.length cap] w (Told w0 (repL ps 0 ⟨1, 1, 1, 1⟩ ⟨1, 1, 1, 1⟩)) := by
  by_cases hn : 0 < ps.length
  · rcases h with h | ⟨b, off, rfl, h⟩
    · rw [h] at hn; simp at hn
    · refine (Pk.repeat_more h hn hl cap).mono fun x w' ⟨Z, hx, hb', _, arr, g1, g2, g3⟩ => ⟨Z, by rw [hlen]; exact hx, hb0.trans (hb'.mono hb0.size), .inr ⟨Z, 0, rfl, fun i hi => ?_⟩⟩
      obtain ⟨q0, q1, q2, q3⟩ := g3 i hi
      refine ⟨?_, ?_, ?_, ?_, hb _ (List.getElem_mem hi)⟩
      · simp only [World.cell?, g1, Nat.zero_add]; exact q0
      · simp only [World.cell?, g1, Nat.zero_add]; exact q1
      · simp only [World.cell?, g1, Nat.zero_add]; exact q2
      · simp only [World.cell?, g1, Nat.zero_add]; exact q3
  · obtain rfl : ps = [] := by cases ps <;> simp_all
    exact (Pk.repeat_nil a cap w).mono fun x w' ⟨Z, hx, hb', _⟩ => ⟨Z, hx, hb0.trans (hb'.mono hb0.size), .inl rfl⟩
/-- What the pieces are told as. -/
def told (s : ByteArray) (c : Nat → Nat × Nat) : List Pt := repL (parse s c 0) 0 ⟨1, 1, 1, 1⟩ ⟨1, 1, 1, 1⟩
theorem told_facts {s : ByteArray} {c : Nat → Nat × Nat} (hc : ∀ p, OkPiece s p (c p)) (hs : s.size ≤ 1048576) : told s c = Pk.rrep (parse s c 0) ⟨1, 1, 1, 1⟩ ⟨1, 1, 1, 1⟩ ∧ (told s c).length = (parse s c 0).length ∧ ∀ p ∈ told s c, p.b < 256 := by
  have h := (parse_rep hc hs).1
  refine ⟨h, ?_, ?_⟩
  · unfold told; rw [h, Pk.rrep_length]
  · unfold told; rw [h]; exact Pk.rrep_bytes _ _ _ (parse_bytes s c 0)
set_option maxRecDepth 100000 in
set_option maxHeartbeats 4000000 in
theorem greedy_any (s : ByteArray) (window cut : Int) (w : World) (hs : s.size ≤ 1000) (hw0 : -9223372036854775808 ≤ window) (hw1 : window ≤ 9223372036854775807) (hc1 : cut ≤ 9223372036854775807) :
    Calls Tryz.prog 8 #[.string s, .int .i64 window, .int .i64 cut] w (Told w (told s (best s window cut))) := by
  have hc := best_ok s window cut
  have HC := Lib.hid hc
  have HNX : Hid (∀ (wr : World) (O : Paint) (F k : Nat), PiAt wr O F s window cut k → Calls Tryz.prog 22 #[.pointer (some ⟨F, 0, none⟩)] wr fun x w' => x = .returned (pv (best s window cut k)) ∧ ∃ O', Step [1] wr O w' O' ∧ PiAt w' O' F s window cut (min (k + 1) s.size)) :=
    Lib.hid (fun wr O F k h => pnext_any h (by omega) hw0 hw1 hc1)
  have HTF := Lib.hid (told_facts hc (by omega))
  have HPN := Lib.hid (pnew_any w (fun _ => 0) s window cut (by omega))
  clear hc hw0 hw1 hc1
  go_enter Tryz.func8, Tryz.ntmps8
  go_wp2_with fail
  refine HPN.out.mono ?_
  rintro x w2 ⟨F, O2, rfl, hs2, hP⟩
  have HL0 : Hid (GrAt w w2 O2 F s window cut 0 (.slice none 0 0) []) := Lib.hid ⟨Clear.below (fun _ _ => rfl) hs2 (by simp) (Nat.le_refl _) (Below.refl _ _), Clear.step (fun _ _ => rfl) hs2 (Nat.le_refl _), hP, HeldP.nil _ _ _⟩
  clear hs2 hP HPN
  generalize hcd : best s window cut = c at *
  clear hcd
  go_wp2_with fail
  go_loopw [8, 9] (fun v i wr => ∃ (k : Nat) (l : List Pt) (O : Paint), k ≤ s.size ∧ i = .int .i64 k ∧ GrAt w wr O F s window cut k v l ∧ l ++ parse s c k = parse s c 0 ∧ l.length ≤ k) (fun _ i _ => s.size - (intOf i).toNat)
  case atStart => exact ⟨0, [], O2, by omega, rfl, HL0.out, rfl, by simp⟩
  case round =>
    clear HL0
    obtain ⟨k, l, O, hk, rfl, hL, hE, hll⟩ := hrel
    obtain ⟨wo, rfl⟩ : ∃ wo : World, wo = wr := ⟨_, rfl⟩
    by_cases hlt : k < s.size
    · have HE := Lib.hid (show (l ++ [pkt s k (c k)]) ++ parse s c (k + size1 (c k)) = parse s c 0 by rw [← hE, parse_more HC.out hlt]; simp)
      have h1 := size1_pos (HC.out k)
      have h2 := size1_le hlt (HC.out k)
      have HN1 := Lib.hid (HNX.out wo O F k hL.pi)
      have HPV : Hid (pv (c k) = .agg #[.int .i64 ((c k).1 : Int), .int .i64 ((c k).2 : Int)]) := Lib.hid rfl
      have HSZ := Lib.hid (fun W => psize_any (c k) W)
      have HPK := Lib.hid (fun W => ppacket_any (bt s k) (c k) W)
      rw [HPV.out] at HN1
      have hbk := bt_at hlt
      have HL := Lib.hid hL
      have HPKT : Hid (pkt s k (c k) = pktB (bt s k) (c k)) := Lib.hid rfl
      rw [HPKT.out] at HE
      clear hE hL HPV HPKT
      generalize (c k).1 = xn at *
      generalize (c k).2 = xd at *
      generalize size1 (c k) = sz at *
      generalize pktB (bt s k) (c k) = pk at *
      go_wp2_with fail
      refine HN1.out.mono ?_
      rintro x w3 ⟨rfl, O3, hs3, hP3⟩
      rw [show min (k + 1) s.size = k + 1 from by omega] at hP3
      have hL3 := HL.out.next hs3 hP3
      have hb4 : Below w3.heap.size w3 (w3.alloc (.cells #[.int .i64 (xn : Int), .int .i64 (xd : Int)] 46)) := (Below.refl _ _).alloc (Nat.le_refl _) _
      have hL4 := hL3.news hb4
      have hx4 : Blk _ (Step.paint O3 w3 3) 3 _ _ := ⟨heap_alloc_new w3 (.cells #[.int .i64 (xn : Int), .int .i64 (xd : Int)] 46), Step.paint_new (Nat.le_refl _)⟩
      clear hs3 hP3 hL3 hb4 HN1 HL
      go_upto_region 6 with (fail)
      generalize w3.alloc (.cells #[.int .i64 (xn : Int), .int .i64 (xd : Int)] 46) = w4 at *
      generalize Step.paint O3 w3 3 = O4 at *
      generalize w3.heap.size = X at *
      have HL4 := Lib.hid hL4
      have HX4 := Lib.hid hx4
      have e1 : (0 : Int) ≤ (k : Int) := by omega
      have e2 : (k : Int) < (s.size : Int) := by omega
      have HS : Hid (∀ W', (∃ O', Step [7] w4 O4 W' O') → (∃ O', Step [7] w4 O4 W' O') ∧ (W'.cell? ⟨X, 0, none⟩ = some (.int .i64 (xn : Int)) ∧ W'.cell? ⟨X, 1, none⟩ = some (.int .i64 (xd : Int)))) := Lib.hid (fun W' h => by
        obtain ⟨O', hq⟩ := h
        exact ⟨⟨O', hq⟩, (two_cells (HX4.out.step hq (by simp)).1).1⟩)
      have HR : Hid (∀ W, Below w4.heap.size w4 W → W.ownsRow 0 33 4 u8 l.length (Pl.flatP l)) := Lib.hid (fun W hb => (HL4.out.news hb).held.row)
      have HRC : Hid (∀ k, u8.ownBlock = some k → O4 k ∈ [7]) := Lib.hid (fun k hk => by rw [HL4.out.held.paint k hk]; simp)
      have S0 : ∃ O', Step [7] w4 O4 w4.drew O' := ⟨O4, (Step.refl _ _ _).drew⟩
      obtain ⟨i0, hi, hz0, hz1, hz2⟩ := info_parts Pl.infoPk
      have hm1 : l.length + 1 ≤ maxLen := by unfold maxLen; omega
      have hm2 : (l.length + 1) * 32 ≤ 140737488355328 := by omega
      rw [← hbk] at HPK
      clear hL4 hx4 hbk
      go_region_held3 (fun W' => (∃ O', Step [7] w4 O4 W' O') ∧ (W'.cell? ⟨X, 0, none⟩ = some (.int .i64 (xn : Int)) ∧ W'.cell? ⟨X, 1, none⟩ = some (.int .i64 (xd : Int)))) ((refine HS.out _ ?_; first | assumption | exact Mo.qal _ (by assumption))) (first | (go_at_call 17; (with_reducible refine (HPK.out _).mono ?_); rintro x w6 ⟨rfl, hb6⟩; have hq6 := Mo.qbel S0 hb6; unfold Pt.val) | (refine Mo.step_append_pt _ rfl (.tmp 21) (.tmp 27) 26 rfl 33 i0 (.agg #[.int .i64 0, .int .i64 0, .int .i64 0, .int .u8 0]) 4 32 Tryz.underlying26 hi hz0 hz1 hz2 rfl (by decide) u8 l.length _ rfl (HR.out _ (Pk.bel_alloc _ (Pk.bel_new hb6 (Pk.bel_drew (Below.refl _ _))))) ⟨w6.heap.size, 0, none⟩ 1 1 (by decide) [.int .i64 pk.k, .int .i64 pk.d, .int .i64 pk.n, .int .u8 (pk.b : Int)] rfl rfl (Pl.pt_news (heap_alloc_new _ _)) (Pl.pt_one _ _ _ _) hm1 hm2 ?_; intro g7 cap7 w7 hown7 hgr7 hmv7; have hq7 := Mo.qgrow (Mo.qal _ hq6) hgr7 HRC.out))
      have hb46 := Pk.bel_new hb6 (Pk.bel_drew (Below.refl w4.heap.size w4))
      have hL6 := HL4.out.news hb46
      have hX6 := HX4.out.step (Step.of_below hb46 O4 3) (by simp)
      obtain ⟨hL7, hs7⟩ := hL6.more rfl hown7 hgr7 hmv7
      have hX7 := hX6.step hs7 (by simp)
      generalize Step.paint (Step.paint O4 w4 3) w6 7 = O7 at *
      clear hb46 hL6 hX6 hs7 hb6 hq6 hown7 hgr7 hmv7 hq7 S0 HS HR HRC HL4 HX4 HPK hi hz0 hz1 hz2
      obtain ⟨m, hm⟩ : ∃ m, sz = m + 1 := ⟨sz - 1, by omega⟩
      subst hm
      have hwk : IntKind.i64.wrap ((k : Int) + ((m + 1 : Nat) : Int)) = (k : Int) + ((m + 1 : Nat) : Int) := by rw [IntKind.wrap_i64]; omega
      have hwm : IntKind.i64.wrap (((m + 1 : Nat) : Int) - 1) = (m : Int) := by rw [IntKind.wrap_i64]; omega
      obtain ⟨⟨p0, p1⟩, _, _, hXl⟩ := two_cells hX7.1
      have HL7 := Lib.hid hL7
      have HX7 := Lib.hid hX7
      clear hL7 hX7
      go_wp2_with fail
      refine (HSZ.out _).mono ?_
      rintro x w8 ⟨rfl, hb8⟩
      have HL8 := Lib.hid (HL7.out.news hb8)
      have hX8 := HX7.out.step (Step.of_below hb8 O7 3) (by simp)
      obtain ⟨⟨p0, p1⟩, _, _, hXl⟩ := two_cells hX8.1
      generalize Step.paint O7 w7 3 = O8 at *
      clear hb8 HL7 HX7
      go_wp2_with fail
      refine (HSZ.out _).mono ?_
      rintro x w9 ⟨rfl, hb9⟩
      have HL9 := Lib.hid (HL8.out.news hb9)
      generalize Step.paint O8 w8 3 = O9 at *
      clear hb9 hX8 p0 p1 HL8 HSZ
      go_wp2_with fail
      go_loopw [36] (fun i wr => ∃ (j : Nat) (O : Paint), j ≤ m ∧ i = .int .i64 j ∧ GrAt w wr O F s window cut (k + 1 + j) (.slice (some ⟨g7, 0, none⟩) (l.length + 1) cap7) (l ++ [pk])) (fun i _ => m - (intOf i).toNat)
      case atStart => exact ⟨0, O9, by omega, rfl, HL9.out⟩
      case round =>
        clear HL9
        obtain ⟨j, O, hj, rfl, hL⟩ := hrel
        by_cases hjm : j < m
        · have HN1 := Lib.hid (HNX.out _ O F _ hL.pi)
          have HL := Lib.hid hL
          clear hL HNX
          go_wp2_with fail
          refine HN1.out.mono ?_
          rintro x w10 ⟨rfl, O10, hs10, hP10⟩
          rw [show min (k + 1 + j + 1) s.size = k + 1 + (j + 1) from by omega] at hP10
          have HL10 := Lib.hid (HL.out.next hs10 hP10)
          clear hs10 hP10 HN1 HL
          go_wp2_with fail
          go_roundw
          case rel => exact ⟨j + 1, O10, by omega, by go_num, HL10.out⟩
          case measure => simp [intOf]; omega
        · obtain rfl : j = m := by omega
          have HL := Lib.hid hL
          clear hL HNX
          rw [show k + 1 + j = k + (j + 1) from by omega] at HL
          go_wp2_with fail
          go_roundw
          case rel => exact ⟨k + (j + 1), l ++ [pk], O, by omega, by go_num, HL.out, HE.out, by simp; omega⟩
          case measure => simp [intOf]; omega
    · obtain rfl : k = s.size := by omega
      rw [parse_end (Nat.le_refl _), List.append_nil] at hE
      subst hE
      obtain ⟨A, cap, rfl, hpts⟩ := hL.held.pts (parse_bytes s c 0)
      obtain ⟨h1, h2, h3⟩ := HTF.out
      have HAG := Lib.hid (again_any (cap := cap) hL.below hpts (by have := parse_length s c 0; omega) h3 h2)
      clear hL HNX HTF hpts h1 h2 h3
      go_wp2_with fail
      refine HAG.out.mono ?_
      rintro x w3 ⟨Z, rfl, hb3, hI3⟩
      have HE : Hid (Told w (told s c) (.returned (.slice (some ⟨Z, 0, none⟩) (repL (parse s c 0) 0 ⟨1, 1, 1, 1⟩ ⟨1, 1, 1, 1⟩).length (repL (parse s c 0) 0 ⟨1, 1, 1, 1⟩ ⟨1, 1, 1, 1⟩).length)) w3) := Lib.hid ⟨Z, rfl, hb3, hI3⟩
      clear hb3 hI3 HAG
      go_wp2_with fail
      go_ret
      exact HE.out
end Go.Proofs.YtoneghmahdjgbaaGreat.Gr
end
