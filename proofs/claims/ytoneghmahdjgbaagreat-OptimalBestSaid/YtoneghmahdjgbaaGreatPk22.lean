/-
  A law for a region that draws its order: its first n operations only read, and all later ones wait for all of them. Then these n are walked in the text's order, and what is left goes on from there ('wpAny').
  A law for a region that draws its order and ends in stores: all operations from the n-th on wait for the first n. The first n are walked with a condition S on the world, which all of them keep (so that loads may be taken first); what is left goes on from there, and S need not hold behind it.
  Package optimal: what its function values do; the contract of spans.
-/
import Derived.Test.YtoneghmahdjgbaaGreatPk21
import Derived.StillTail
import Derived.StillTactics
import Derived.OrdersHeld
import Derived.Deep.RegionHeld
import Derived.Deep.RegionHeld3
section
section
namespace Go.Proofs.YtoneghmahdjgbaaGreat.Tail
open Go
variable {P : Program} {ops : Array Oper} {md : Region.Mode} {w : World}
/-- Each operation behind the n-th waits for one from the n-th on. -/
def laterB (md : Region.Mode) (ops : Array Oper) (n : Nat) : Bool :=
  (List.range ops.size).all fun t => decide (t ≤ n) || (List.range t).any fun u => decide (n ≤ u) && Region.waitsFor md ops t u
/-- The first ones can be taken in the text's order. -/
def headB (md : Region.Mode) (ops : Array Oper) : Nat → Nat → Array Bool → Bool
  | 0, _, _ => true
  | f + 1, k, s => (Region.ready md ops s).contains k && Region.free md ops s k && headB md ops f (k + 1) (s.setIfInBounds k true)
/-- What is marked behind the first ones. -/
def marked : Nat → Nat → Array Bool → Array Bool
  | 0, _, s => s
  | f + 1, k, s => marked f (k + 1) (s.setIfInBounds k true)
/-- All that the law asks of a region's text. -/
def tailB (ops : Array Oper) (n : Nat) : Bool :=
  Region.noSelect ops && decide (n < ops.size) && Region.sinkB .any ops n && laterB .any ops n && headB .any ops n 0 (Array.replicate ops.size false)
end Go.Proofs.YtoneghmahdjgbaaGreat.Tail
end
section
namespace Go.Proofs.YtoneghmahdjgbaaGreat.Tail
open Go
variable {P : Program} {ops : Array Oper} {md : Region.Mode} {Q : Exit → Act → World → Prop} {S : World → Prop} {n g : Nat} {Z : Array Bool}
/-- Whatever order is picked from here on, till the first n have come up. -/
def wpHead (P : Program) (md : Region.Mode) (ops : Array Oper) (Q : Exit → Act → World → Prop) (n : Nat) (S : World → Prop) (L : Array Bool → Act → World → Prop) : Nat → Array Bool → Act → World → Prop
  | 0, s, a, w => L s a w
  | f + 1, s, a, w => Region.ready md ops s ≠ [] ∧ ∀ i ∈ Region.ready md ops s, i < n ∧ wpOp P ops Q i (fun a' w' => S w' ∧ wpHead P md ops Q n S L f (s.setIfInBounds i true) a' w') a w
/-- What is left behind the first n. -/
def Left (P : Program) (md : Region.Mode) (ops : Array Oper) (Q : Exit → Act → World → Prop) (g : Nat) (Z : Array Bool) (s : Array Bool) (a : Act) (w : World) : Prop := s = Z ∧ wpAny P md ops Q g Z a w
/-- What the law asks of the region's text. -/
structure HeadOk (md : Region.Mode) (ops : Array Oper) (n : Nat) (Z : Array Bool) : Prop where
  sel : Region.noSelect ops = true
  lt : n < ops.size
  sink : Region.sinkB md ops n = true
  later : laterB md ops n = true
  done : ((Region.ready md ops Z).all fun t => decide (n ≤ t)) = true
def headInvB (md : Region.Mode) (ops : Array Oper) (n : Nat) (s : Array Bool) : Bool :=
  decide (s.size = ops.size) && ((List.range ops.size).all fun j => match ops[j]? with
    | some oj => !(s.getD j false) || oj.after.all fun e => !(Region.binds md e) || s.getD e.on false
    | none => true) && ((List.range ops.size).all fun t => decide (t < n) || !(s.getD t true))
/-- What may come up now. -/
def AllHead (P : Program) (md : Region.Mode) (ops : Array Oper) (Q : Exit → Act → World → Prop) (n : Nat) (S : World → Prop) (L : Array Bool → Act → World → Prop) (f : Nat) (s : Array Bool) (a : Act) (w : World) (rs : List Nat) : Prop :=
  ∀ i ∈ rs, wpOp P ops Q i (fun a' w' => S w' ∧ wpHead P md ops Q n S L f (s.setIfInBounds i true) a' w') a w
theorem AllHead.nil {L : Array Bool → Act → World → Prop} {f : Nat} {s : Array Bool} {a : Act} {w : World} : AllHead P md ops Q n S L f s a w [] := fun _ h => by cases h
theorem AllHead.cons {L : Array Bool → Act → World → Prop} {f : Nat} {s : Array Bool} {a : Act} {w : World} {i : Nat} {o : Oper} {rs : List Nat} (ho : ops[i]? = some o)
    (h : ∀ K' : Act → World → Prop, Shut (∀ a w, S w → (S w → wpHead P md ops Q n S L f (s.setIfInBounds i true) a w) → K' a w) → if Region.wanted o (yielded ops a.tmps) = true then Oper.wp P o a w K' Q else K' (a.put o.dst undef) w)
    (hs : AllHead P md ops Q n S L f s a w rs) : AllHead P md ops Q n S L f s a w (i :: rs) := fun j hj => by
  rcases List.mem_cons.1 hj with rfl | hj
  · exact wpOp_step ho (fun K' hK => h K' (fun a w hS hW => hK a w ⟨hS, hW hS⟩))
  · exact hs j hj
/-- A goal with the numbers that are to be taken next, in their order. -/
def Lst (_ : List Nat) (G : Prop) : Prop := G
theorem Lst.mk (L : List Nat) {G : Prop} (h : Lst L G) : G := h
theorem Lst.nil {G : Prop} (h : G) : Lst [] G := h
theorem Lst.takeH {i : Nat} {L : List Nat} {oi : Oper} {v : Value} {f : Nat} {s : Array Bool} {a : Act} {w : World} (hi : ops[i]? = some oi) (hy : YieldsIf P ops S oi v a)
    (h : Lst L (wpAnyH P md ops Q S f (s.setIfInBounds i true) (a.put oi.dst v) w)) (hb : (Region.noSelect ops && (Region.free md ops s i && (Region.ready md ops s).contains i)) = true := by kernel_rfl)
    (hQ : ∀ c a w, Q (.panic c) (a.put oi.dst v) w → Q (.panic c) a w := by intro _ _ _ h; exact h) (hS : S w := by assumption) : Lst (i :: L) (wpAnyH P md ops Q S (f + 1) s a w) := by
  simp only [Bool.and_eq_true] at hb
  exact wpAnyH_take hi hb.1 hb.2.1 hb.2.2 hQ hy hS h
end Go.Proofs.YtoneghmahdjgbaaGreat.Tail
end
end
section
set_option linter.unusedVariables false
set_option linter.unusedSimpArgs false
namespace Go.Proofs.YtoneghmahdjgbaaGreat.Om
open Go.RowKit
open Pc (Tb)
/-- What the function value knows: what the way up to here costs, the table, the ways, the place, what lengths cost. -/
structure Env (w : World) (O : Paint) (HV TB WV AT LV g N : Nat) (t : Tb) (p : Nat) (h : Int) (F : Nat → Wy) : Prop where
  hv : Blk w O 3 HV (.cells #[.int .i64 h] 3 (0, 0))
  tb : Blk w O 3 TB (.cells #[.int .i64 t.l, .int .i64 t.m, .int .i64 t.n, .int .i64 t.f, .int .i64 t.b] 25 (0, 0))
  wv : Blk w O 3 WV (.cells #[.slice (some ⟨g, 0, none⟩) (N + 1) (N + 1)] 43 (0, 0))
  at' : Blk w O 3 AT (.cells #[.int .i64 (p : Int)] 3 (0, 0))
  ln : Blk w O 3 LV (.cells (lnA t 274) 78 (0, 0))
  ways : WaysAt w O g (N + 1) F
section
variable {cs : List Nat} {w w' : World} {O O' : Paint} {HV TB WV AT LV g N p : Nat} {t : Tb} {h : Int} {F F' : Nat → Wy}
theorem Env.step (E : Env w O HV TB WV AT LV g N t p h F) (hs : Step cs w O w' O') (h2 : 2 ∉ cs) (h3 : 3 ∉ cs) : Env w' O' HV TB WV AT LV g N t p h F :=
  ⟨E.hv.step hs h3, E.tb.step hs h3, E.wv.step hs h3, E.at'.step hs h3, E.ln.step hs h3, E.ways.step hs h2⟩
theorem Env.idle (E : Env w O HV TB WV AT LV g N t p h F) (hs : Step [] w O w' O') : Env w' O' HV TB WV AT LV g N t p h F := E.step hs (by simp) (by simp)
theorem Env.told (E : Env w O HV TB WV AT LV g N t p h F) (hs : Step [2] w O w' O') (hw : WaysAt w' O' g (N + 1) F') : Env w' O' HV TB WV AT LV g N t p h F' :=
  ⟨E.hv.step hs (by simp), E.tb.step hs (by simp), E.wv.step hs (by simp), E.at'.step hs (by simp), E.ln.step hs (by simp), hw⟩
end
theorem one_of {w : World} {X : Nat} {a : Value} {t : TypeId} (h : w.heap[X]? = some (.cells #[a] t (0, 0))) : w.cell? ⟨X, 0, none⟩ = some a := by simp [World.cell?, h]
theorem tellR_next (t : Tb) (p : Nat) (h : Int) (d a n : Nat) (F : Nat → Wy) (hn : a ≤ n) : tellR t p h d a (n + 1 - a) F = offer (tellR t p h d a (n - a) F) (p + n) (h + t.cost (n : Int) d) (n, d) := by
  rw [show n + 1 - a = (n - a) + 1 from by omega, tellR, show a + (n - a) = n from by omega]
set_option maxRecDepth 100000 in
set_option maxHeartbeats 2000000 in
theorem tell_any {w : World} {O : Paint} {HV TB WV AT LV g N p : Nat} {t : Tb} {h : Int} {F : Nat → Wy} (E : Env w O HV TB WV AT LV g N t p h F) (ht : t.good = true) (hh0 : 0 ≤ h) (hh1 : h ≤ 1000000000) (hN : N ≤ 1000) (a m d : Nat) (ha : a ≤ m) (hm : m ≤ 273) (hp : p + m ≤ N) (hd : d ≤ 1048576) :
    Calls Tryz.prog 41 #[.int .i64 (a : Int), .int .i64 (m : Int), .int .i64 (d : Int), .pointer (some ⟨HV, 0, none⟩), .pointer (some ⟨TB, 0, none⟩), .pointer (some ⟨WV, 0, none⟩), .pointer (some ⟨AT, 0, none⟩), .pointer (some ⟨LV, 0, none⟩)] w fun z w' => z = .returned (.tuple #[]) ∧ ∃ O', Step [2] w O w' O' ∧ Env w' O' HV TB WV AT LV g N t p h (tellR t p h d a (m + 1 - a) F) := by
  have HDI := Lib.hid (fun (W : World) => Pc.dist_any t ht (d : Int) (by omega) (by omega) W)
  obtain ⟨d1, d2⟩ := t.dist_range ht (d := (d : Int)) (by omega)
  obtain ⟨_, ⟨m1, m2⟩, _⟩ := t.good_range ht
  have HS := Lib.hid (show ∀ W', Below w.heap.size w W' → (Below w.heap.size w W' ∧ W'.cell? ⟨HV, 0, none⟩ = some (.int .i64 h) ∧ (W'.cell? ⟨TB, 0, none⟩ = some (.int .i64 t.l) ∧ W'.cell? ⟨TB, 1, none⟩ = some (.int .i64 t.m) ∧ W'.cell? ⟨TB, 2, none⟩ = some (.int .i64 t.n) ∧ W'.cell? ⟨TB, 3, none⟩ = some (.int .i64 t.f) ∧ W'.cell? ⟨TB, 4, none⟩ = some (.int .i64 t.b))) from fun W' hb =>
    ⟨hb, one_of ((hb.block HV E.hv.lt).trans E.hv.1), five_of ((hb.block TB E.tb.lt).trans E.tb.1)⟩)
  have EH := Lib.hid E
  have e1 : IntKind.i64.wrap (h + t.m) = h + t.m := by rw [IntKind.wrap_i64]; omega
  have e2 : wrap64 (h + t.m) = h + t.m := by unfold wrap64; omega
  have HC := Lib.hid (fun (n : Nat) => show h + t.m + t.dist (d : Int) + t.len (n : Int) = h + t.cost (n : Int) (d : Int) from by unfold Tb.cost; omega)
  have HLR := Lib.hid (fun (n : Nat) => t.len_range ht (n : Int))
  obtain ⟨b, hb⟩ : ∃ b, b = h + t.m + t.dist (d : Int) := ⟨_, rfl⟩
  have hb0 : 0 ≤ b ∧ b ≤ 1100000000 := by omega
  have e3 : IntKind.i64.wrap (h + t.m + t.dist (d : Int)) = b := by rw [IntKind.wrap_i64]; omega
  have e4 : wrap64 (h + t.m + t.dist (d : Int)) = b := by unfold wrap64; omega
  have HB := Lib.hid hb
  clear hb
  clear E
  go_enter Tryz.func41, Tryz.ntmps41
  go_upto_region 0 with (fail)
  go_region_held3 (fun W' => Below w.heap.size w W' ∧ W'.cell? ⟨HV, 0, none⟩ = some (.int .i64 h) ∧ (W'.cell? ⟨TB, 0, none⟩ = some (.int .i64 t.l) ∧ W'.cell? ⟨TB, 1, none⟩ = some (.int .i64 t.m) ∧ W'.cell? ⟨TB, 2, none⟩ = some (.int .i64 t.n) ∧ W'.cell? ⟨TB, 3, none⟩ = some (.int .i64 t.f) ∧ W'.cell? ⟨TB, 4, none⟩ = some (.int .i64 t.b))) ((refine HS.out _ ?_; repeat (first | assumption | exact Below.refl _ _ | refine Pk.bel_drew ?_ | (refine Pk.bel_new (by assumption) ?_)))) (first | (go_at_call 20; (with_reducible refine (HDI.out _).mono ?_); rintro z w1 ⟨rfl, hb1⟩))
  have E1 := Lib.hid (EH.out.idle (Step.of_below_same hb1 O).from_drew)
  have HS1 := Lib.hid ((Step.of_below_same hb1 O).from_drew.nil (cs := [2]))
  try rw [e3]
  clear hb1 HS HDI EH d1 d2 m1 m2 e1 e2 e3 e4
  go_wp2_with fail
  go_loopw [12] (fun i wr => ∃ (n : Nat) (O2 : Paint), a ≤ n ∧ n ≤ m + 1 ∧ i = .int .i64 (n : Int) ∧ Step [2] w1 O wr O2 ∧ Env wr O2 HV TB WV AT LV g N t p h (tellR t p h d a (n - a) F)) (fun i _ => m + 1 - (intOf i).toNat)
  case atStart => exact ⟨a, O, Nat.le_refl _, by omega, rfl, Step.refl _ _ _, by rw [Nat.sub_self]; exact E1.out⟩
  case round =>
    obtain ⟨n, O2, hn1, hn2, rfl, hs2, E2⟩ := hrel
    clear E1
    by_cases hlt : n ≤ m
    · have HNX := Lib.hid (tellR_next t p h d a n F hn1)
      generalize tellR t p h d a (n - a) F = Fn at *
      have HOF := Lib.hid (offer_any (E2.ways.step (Step.refl [] wr O2).drew (by simp)) (show p + n < N + 1 by omega) (h + t.cost (n : Int) (d : Int)) (n, d))
      have HS := Lib.hid (show ∀ W', (∃ O', Step [2] wr O2 W' O') → ((∃ O', Step [2] wr O2 W' O') ∧ W'.cell? ⟨WV, 0, none⟩ = some (.slice (some ⟨g, 0, none⟩) (N + 1) (N + 1)) ∧ W'.cell? ⟨AT, 0, none⟩ = some (.int .i64 (p : Int)) ∧ W'.cell? ⟨LV, n, none⟩ = some (.int .i64 (t.len (n : Int)))) from fun W' hq => by
        obtain ⟨O', hq'⟩ := hq
        have c1 := (ln_cell (E2.ln.step hq' (by simp)).1 n (by omega)).1
        rw [if_pos (by omega)] at c1
        exact ⟨⟨O', hq'⟩, one_of (E2.wv.step hq' (by simp)).1, one_of (E2.at'.step hq' (by simp)).1, c1⟩)
      obtain ⟨l1, l2⟩ := HLR.out n
      have hcn := HC.out n
      rw [← HB.out] at hcn
      generalize hcst : h + t.cost (n : Int) (d : Int) = cst at *
      have E2H := Lib.hid E2
      have HS2 := Lib.hid hs2
      clear E2 hs2 hcst
      have e0 : (0 : Int) ≤ (p : Int) + (n : Int) := by omega
      have e1 : (p : Int) + (n : Int) < (N : Int) + 1 := by omega
      have e1' : (p : Int) + (n : Int) < ((N + 1 : Nat) : Int) := by omega
      have e2 : ((p : Int) + (n : Int)).toNat = p + n := by omega
      have e3 : IntKind.i64.wrap ((p : Int) + (n : Int)) = (p : Int) + (n : Int) := by rw [IntKind.wrap_i64]; omega
      have e4 : wrap64 ((p : Int) + (n : Int)) = (p : Int) + (n : Int) := by unfold wrap64; omega
      have f0 : (0 : Int) ≤ (n : Int) := by omega
      have f1 : (n : Int) < 274 := by omega
      have f2 : (n : Int) ≤ (m : Int) := by omega
      have e5 : IntKind.i64.wrap (b + t.len (n : Int)) = cst := by rw [IntKind.wrap_i64]; omega
      have e6 : wrap64 (b + t.len (n : Int)) = cst := by unfold wrap64; omega
      clear hcn l1 l2
      generalize t.len (n : Int) = tl at *
      go_upto_region 4 with (fail)
      go_region_held3 (fun W' => (∃ O', Step [2] wr O2 W' O') ∧ W'.cell? ⟨WV, 0, none⟩ = some (.slice (some ⟨g, 0, none⟩) (N + 1) (N + 1)) ∧ W'.cell? ⟨AT, 0, none⟩ = some (.int .i64 (p : Int)) ∧ W'.cell? ⟨LV, n, none⟩ = some (.int .i64 tl)) ((refine HS.out _ ?_; first | assumption | exact ⟨_, (Step.refl _ _ _).drew⟩)) (first | (go_at_call 38; (with_reducible refine HOF.out.mono ?_); rintro z w4 ⟨rfl, hq4⟩; have hq4' : ∃ O', Step [2] wr O2 w4 O' := by (obtain ⟨O4, k1, k2⟩ := hq4; exact ⟨O4, k1.from_drew⟩)))
      obtain ⟨O4, hs4, hw4⟩ := hq4
      have E4 := Lib.hid (E2H.out.told hs4.from_drew hw4)
      have HS4 := Lib.hid (HS2.out.trans hs4.from_drew)
      clear hs4 hw4 hq4' HS HOF E2H HS2
      go_wp2_with fail
      go_roundw
      case rel => exact ⟨n + 1, O4, by omega, by omega, by go_num, HS4.out, by rw [HNX.out]; exact E4.out⟩
      case measure => simp [intOf]; omega
    · obtain rfl : n = m + 1 := by omega
      have HS4 := Lib.hid (HS1.out.trans hs2)
      have E4 := Lib.hid E2
      have f2 : ¬ ((m + 1 : Nat) : Int) ≤ (m : Int) := by omega
      clear hs2 E2
      go_wp2_with fail
      first | go_end0 | (simp only [Exit.inBlock, Exit.then]; refine bodyPost_ret (results_none rfl _ _ _) rfl ?_) | refine bodyPost_ret (results_none rfl _ _ _) rfl ?_
      exact ⟨rfl, O2, HS4.out, E4.out⟩
/-- What was found, in memory; the block has the colour 4. -/
structure Fnd (w : World) (O : Paint) (A : Option Addr) (l : List (Nat × Nat)) : Prop where
  at' : ∀ i (hi : i < l.length), ∃ gb, A = some ⟨gb, 0, none⟩ ∧ gb < w.heap.size ∧ O gb = 4 ∧ w.cell? ⟨gb, i * 2, none⟩ = some (.int .i64 (l[i].1 : Int)) ∧ w.cell? ⟨gb, i * 2 + 1, none⟩ = some (.int .i64 (l[i].2 : Int))
theorem Fnd.step {cs : List Nat} {w w' : World} {O O' : Paint} {A : Option Addr} {l : List (Nat × Nat)} (h : Fnd w O A l) (hs : Step cs w O w' O') (h4 : 4 ∉ cs) : Fnd w' O' A l := ⟨fun i hi => by
  obtain ⟨gb, h0, h1, h2, h3, h5⟩ := h.at' i hi
  exact ⟨gb, h0, Nat.lt_of_lt_of_le h1 hs.size, (hs.ext gb h1).trans h2, (hs.cell (p := ⟨gb, i * 2, none⟩) h1 (by rw [h2]; exact h4)).trans h3, (hs.cell (p := ⟨gb, i * 2 + 1, none⟩) h1 (by rw [h2]; exact h4)).trans h5⟩⟩
/-- Lengths rise, from a on; each match may be. -/
def Up (N p : Nat) : Nat → List (Nat × Nat) → Prop
  | _, [] => True
  | a, x :: l => (a ≤ x.1 ∧ x.1 ≤ 273 ∧ p + x.1 ≤ N ∧ x.2 ≤ 1048576) ∧ Up N p (x.1 + 1) l
theorem up_all {s : ByteArray} {W : Int} {p : Nat} (hp : p ≤ 1048576) (hps : p ≤ s.size) : ∀ (x best : Nat), x ≤ p → Up s.size p (best + 1) (Mt.allL (Ch.bt s) p (Bs.lim s p) W x best)
  | 0, best, _ => trivial
  | x + 1, best, hx => by
    rw [Mt.allL]
    split
    · split
      · rename_i h1 h2
        have hm := Mt.mat_le (Ch.bt s) p x (Bs.lim s p) 0
        have hl : Bs.lim s p ≤ 273 ∧ Bs.lim s p ≤ s.size - p := by unfold Bs.lim; omega
        exact ⟨⟨by simp only; omega, by simp only; omega, by simp only; omega, by simp only; omega⟩, up_all hp hps x _ (by omega)⟩
      · exact up_all hp hps x _ (by omega)
    · trivial
set_option maxRecDepth 100000 in
set_option maxHeartbeats 2000000 in
theorem spans_any {w : World} {O : Paint} {HV TB WV AT LV g N p : Nat} {t : Tb} {h : Int} {F : Nat → Wy} (E : Env w O HV TB WV AT LV g N t p h F) (ht : t.good = true) (hh0 : 0 ≤ h) (hh1 : h ≤ 1000000000) (hN : N ≤ 1000) {A : Option Addr} {l : List (Nat × Nat)} (hl : l.length ≤ 1000) (hF : Fnd w O A l) (hU : Up N p 2 l) (cap : Nat) :
    Calls Tryz.prog 39 #[.slice A l.length cap, .func (.func 41) #[] #[.pointer (some ⟨HV, 0, none⟩), .pointer (some ⟨TB, 0, none⟩), .pointer (some ⟨WV, 0, none⟩), .pointer (some ⟨AT, 0, none⟩), .pointer (some ⟨LV, 0, none⟩)]] w fun z w' => z = .returned (.tuple #[]) ∧ ∃ O', Step [2] w O w' O' ∧ Env w' O' HV TB WV AT LV g N t p h (spans t p h 2 l F) := by
  have EH := Lib.hid E
  have HF := Lib.hid hF
  have HU := Lib.hid hU
  clear E hF hU
  go_enter Tryz.func39, Tryz.ntmps39
  go_wp2_with fail
  go_loopw [4, 9] (fun v i wr => ∃ (k a : Nat) (F1 : Nat → Wy) (O2 : Paint), k ≤ l.length ∧ i = .int .i64 (k : Int) ∧ v = .int .i64 (a : Int) ∧ Step [2] w O wr O2 ∧ Env wr O2 HV TB WV AT LV g N t p h F1 ∧ Fnd wr O2 A l ∧ Up N p a (l.drop k) ∧ spans t p h 2 l F = spans t p h a (l.drop k) F1) (fun _ i _ => l.length - (intOf i).toNat)
  case atStart => exact ⟨0, 2, F, O, Nat.zero_le _, rfl, rfl, Step.refl _ _ _, EH.out, HF.out, HU.out, rfl⟩
  case round =>
    clear EH HF HU
    obtain ⟨k, a, F1, O2, hk, rfl, rfl, hs2, E2, hF2, hU2, hsp⟩ := hrel
    by_cases hlt : k < l.length
    · rw [List.drop_eq_getElem_cons hlt] at hU2 hsp
      rw [spans] at hsp
      obtain ⟨⟨u1, u2, u3, u4⟩, hU3⟩ := hU2
      obtain ⟨gb, rfl, hgb, hgc, c0, c1⟩ := hF2.at' k hlt
      generalize l[k].1 = n at *
      generalize l[k].2 = d at *
      have HSP := Lib.hid hsp
      have HU3 := Lib.hid hU3
      have HF2 := Lib.hid hF2
      have E2H := Lib.hid E2
      have HS2 := Lib.hid hs2
      have e1 : (k : Int) < (l.length : Int) := by omega
      have e0 : (0 : Int) ≤ (k : Int) := by omega
      have e2 : (k : Int).toNat = k := rfl
      clear hsp hU3 hF2 E2 hs2 hgb hgc
      go_upto_region 4 with (fail)
      have hs3 := Step.alloc_paint wr O2 5 (.cells #[.int .i64 (n : Int), .int .i64 (d : Int)] 93)
      have HM := Lib.hid (Blk.new wr O2 5 (.cells #[.int .i64 (n : Int), .int .i64 (d : Int)] 93))
      have HF3 := Lib.hid (HF2.out.step hs3 (by simp))
      have E3 := Lib.hid (E2H.out.idle hs3)
      have HS3 := Lib.hid (HS2.out.trans (hs3.nil (cs := [2])))
      clear hs3 HF2 E2H HS2 c0 c1
      generalize wr.alloc (.cells #[.int .i64 (n : Int), .int .i64 (d : Int)] 93) = w3 at *
      generalize wr.heap.size = X at *
      generalize Step.paint O2 wr 5 = O3 at *
      obtain ⟨x0, x1⟩ := two_of HM.out.1
      have HTL := Lib.hid (tell_any E3.out ht hh0 hh1 hN a n d u1 u2 u3 u4)
      go_wp2_with fail
      refine HTL.out.mono ?_
      rintro z w4 ⟨rfl, O4, hs4, E4⟩
      obtain ⟨y0, y1⟩ := two_of (HM.out.step hs4 (by simp)).1
      have HF4 := Lib.hid (HF3.out.step hs4 (by simp))
      have E4H := Lib.hid E4
      have HS4 := Lib.hid (HS3.out.trans hs4)
      clear hs4 E4 x0 x1 HTL HM HF3 E3 HS3
      go_wp2_with fail
      go_roundw
      case rel => exact ⟨k + 1, n + 1, _, O4, by omega, by go_num, by go_num, HS4.out, E4H.out, HF4.out, HU3.out, HSP.out⟩
      case measure => simp [intOf]; omega
    · obtain rfl : k = l.length := by omega
      rw [List.drop_of_length_le (Nat.le_refl _), spans] at hsp
      have HSP := Lib.hid hsp
      have E4H := Lib.hid E2
      have HS4 := Lib.hid hs2
      clear hsp E2 hs2 hF2 hU2
      go_wp2_with fail
      first | go_end0 | (simp only [Exit.inBlock, Exit.then]; refine bodyPost_ret (results_none rfl _ _ _) rfl ?_) | refine bodyPost_ret (results_none rfl _ _ _) rfl ?_
      exact ⟨rfl, O2, HS4.out, by rw [HSP.out]; exact E4H.out⟩
end Go.Proofs.YtoneghmahdjgbaaGreat.Om
end
