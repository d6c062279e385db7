/-
  The reference of layer 18: contexts in memory; the contracts of New and Left.
-/
import Derived.Test.YtjeppcaniafgpaaRcxMap
import Derived.Test.YtjeppcaniafgpaaContextNew
import Derived.Test.YtjeppcaniafgpaaFreqCountsWalk
set_option linter.unusedVariables false
set_option linter.unusedSimpArgs false
namespace Go.Proofs.Ytjeppcaniafgpaa.Rx
open Go.RowKit Go.Maps
open Fq
open Rc
open Cx (Tl TOk clip clip_in)
/-- Contexts of the document, as numbers: n: how often a table was set. -/
structure Rd where
  order : Nat
  cells : Nat
  rs : Nat
  T : List UInt8 → Option Tl
  hist : List UInt8
  sum : Nat
  n : Nat
structure RdAt (w : World) (O : Paint) (c d : Nat) (mb : Nat) (D : Dv) (q : Rd) : Prop where
  obj : Blk w O c d (.cells #[.int .i64 (q.order : Int), .int .i64 (q.cells : Int), .map (some mb), .string ⟨q.hist.toArray⟩, .int .i64 (q.rs : Int)] 48 (0, 0))
  map : TmAt w O c mb q.n D q.T
  sum : sumD D = q.sum
section
variable {cs : List Nat} {w w' : World} {O O' : Paint} {c d mb : Nat} {D : Dv} {q : Rd}
theorem RdAt.step (h : RdAt w O c d mb D q) (hs : Step cs w O w' O') (hc : c ∉ cs) : RdAt w' O' c d mb D q := ⟨h.obj.step hs hc, h.map.step hs hc, h.sum⟩
theorem five_at {w : World} {X : Nat} {a b c d e : Value} {t : TypeId} (h : w.heap[X]? = some (.cells #[a, b, c, d, e] t (0, 0))) :
    w.cell? ⟨X, 0, none⟩ = some a ∧ w.cell? ⟨X, 1, none⟩ = some b ∧ w.cell? ⟨X, 2, none⟩ = some c ∧ w.cell? ⟨X, 3, none⟩ = some d ∧ w.cell? ⟨X, 4, none⟩ = some e := by
  refine ⟨?_, ?_, ?_, ?_, ?_⟩ <;> simp [World.cell?, h]
theorem clip_any (n a b : Int) (w : World) : Calls Try.prog 50 #[.int .i64 n, .int .i64 a, .int .i64 b] w fun x w' => x = .returned (.int .i64 (clip n a b)) ∧ w = w' := by
  have hc : (n < a ∧ clip n a b = a) ∨ (¬ n < a ∧ b < n ∧ clip n a b = b) ∨ (¬ n < a ∧ ¬ b < n ∧ clip n a b = n) := by
    unfold clip
    split
    · exact .inl ⟨by assumption, rfl⟩
    · split
      · exact .inr (.inl ⟨by assumption, by assumption, rfl⟩)
      · exact .inr (.inr ⟨by assumption, by assumption, rfl⟩)
  rcases hc with ⟨h1, h2⟩ | ⟨h1, h3, h2⟩ | ⟨h1, h3, h2⟩
  all_goals
    rw [h2]
    clear h2
    go_enter Try.func50, Try.ntmps50
    go_wp2_with fail
    go_ret
    exact ⟨rfl, rfl⟩
def rdNew (o n : Int) : Rd := ⟨(clip o 0 16).toNat, (clip n 64 1048576).toNat, 0, fun _ => none, [], 0, 0⟩
theorem new_dw (o n : Int) (w : World) (O : Paint) (c : Nat) :
    Calls Try.prog 17 #[.int .i64 o, .int .i64 n] w fun x w' => ∃ O' d mb D, x = .returned (.pointer (some ⟨d, 0, none⟩)) ∧ Step [] w O w' O' ∧ RdAt w' O' c d mb D (rdNew o n) := by
  have hm := Lib.hid (fun W => run_makeMap (P := Try.prog) 46 W)
  obtain ⟨k1, _⟩ := clip_in (n := o) (a := 0) (b := 16) (by omega)
  obtain ⟨k2, _⟩ := clip_in (n := n) (a := 64) (b := 1048576) (by omega)
  have H1 := Lib.hid (clip_any o 0 16)
  have H2 := Lib.hid (clip_any n 64 1048576)
  have HK : Hid (∃ O' d mb D, (Ending.returned (.pointer (some ⟨w.heap.size + 1, 0, none⟩)) = .returned (.pointer (some ⟨d, 0, none⟩))) ∧ Step [] w O ((w.alloc (.map #[] 0)).alloc (.cells #[.int .i64 (clip o 0 16), .int .i64 (clip n 64 1048576), .map (some w.heap.size), .string ⟨#[]⟩, .int .i64 0] 48)) O' ∧ RdAt ((w.alloc (.map #[] 0)).alloc (.cells #[.int .i64 (clip o 0 16), .int .i64 (clip n 64 1048576), .map (some w.heap.size), .string ⟨#[]⟩, .int .i64 0] 48)) O' c d mb D (rdNew o n)) := by
    refine Lib.hid ⟨Step.paint O w c, w.heap.size + 1, w.heap.size, .map [], rfl, (((Step.refl [] w O).alloc _).alloc _).repaint c, ⟨⟨?_, Step.paint_new (Nat.le_succ _)⟩, ?_, rfl⟩⟩
    · have := heap_alloc_new (w.alloc (.map #[] 0)) (.cells #[.int .i64 (clip o 0 16), .int .i64 (clip n 64 1048576), .map (some w.heap.size), .string ⟨#[]⟩, .int .i64 0] 48)
      rw [World.size_alloc] at this
      rw [this]
      have e1 : ((rdNew o n).order : Int) = clip o 0 16 := by unfold rdNew; dsimp only; omega
      have e2 : ((rdNew o n).cells : Int) = clip n 64 1048576 := by unfold rdNew; dsimp only; omega
      rw [e1, e2]
      rfl
    · refine tm_made ?_ (Step.paint_new (Nat.le_refl _))
      rw [Below.heap_alloc _ _ _ (by simp)]
      exact heap_alloc_new w _
  clear k1 k2
  generalize clip o 0 16 = A at *
  generalize clip n 64 1048576 = B at *
  go_enter Try.func17, Try.ntmps17
  go_wp2_with fail
  refine (H1.out _).mono ?_
  rintro x w1 ⟨rfl, rfl⟩
  go_wp2_with fail
  refine (H2.out _).mono ?_
  rintro x w1 ⟨rfl, rfl⟩
  have hm1 := hm.out w
  go_wp2_with fail
  go_ret
  exact HK.out
section
variable {P : Program} {ops : Array Oper} {rest : List Oper} {o : Oper} {a : Act} {Q : Exit → Act → World → Prop}
/-- A round of a range over tables. -/
theorem next_tab (w : World) (hg : o.guard = none) (it : Operand) (hop : o.op = Op.next it false) (b r n : Nat) (D : Dv) (left : Lit → Bool) (cnt : Nat)
    (hit : a.eval it = .pointer (some ⟨r, 0, none⟩)) (h : w.ranges Try.prog 9 tok b r n D left cnt)
    (hDone : (∀ kl, left kl = false) → wpList Try.prog ops Q rest (a.put o.dst (.tuple #[.bool false])) w)
    (hMore : ∀ (x : ByteArray) (v : Value) (w' : World) (cnt' : Nat), left (.string x.data.toList) = true → (∀ zd, D.atKey (.string x.data.toList) zd = .held v) → w'.ranges Try.prog 9 tok b r n D (fun z => left z && !z.sameKey (.string x.data.toList)) cnt' → cnt' < cnt →
      w.grownBy w' (some r) → (Instr.entry (.pointer (some ⟨r, 0, none⟩))).run Try.prog w' = .ok (.tuple #[.string x, v]) w' → wpList Try.prog ops Q rest (a.put o.dst (.tuple #[.bool true, .string x, v])) w') :
    wpList Try.prog ops Q (o :: rest) a w := by
  refine wpList_next_ranges w hg it hop 9 keyS tok Value.string (fun v => v) ?_ (fun v y _ => ⟨v, rfl⟩) b r n D left cnt hit h (fun _ hl => hDone hl) ?_
  · intro key kl hk
    cases key <;> simp [keyOf, Try.underlying9, mapKey] at hk
    exact ⟨_, rfl⟩
  · intro x v kl y w' cnt' hk hl hv hat hrg hlt hgr hsz hen
    have e1 : kl = .string x.data.toList := by
      simp [keyOf, Try.underlying9, mapKey] at hk
      exact hk.2.symm
    have e2 : y.1 = .held v := by
      unfold tok at hv
      cases hv
      rfl
    subst e1
    rw [e2] at hat
    exact hMore x v w' cnt' hl hat hrg hlt hgr hen
end
theorem RefT.shape {w : World} {v1 v2 : Value} {l : Tl} (h : RefT w v1 v2 l) : ∃ A p A2 p2, v1 = .slice A l.length p ∧ v2 = .slice A2 l.length p2 := by
  have k : ∀ {e : TypeId} {v : Value} {xs : List Value}, w.ownsRow 0 e 1 v l.length xs → ∃ A p, v = .slice A l.length p := by
    intro e v xs h
    rcases h.2 with ⟨e1, e2⟩ | ⟨g, p, cur, e1, _⟩
    · exact ⟨none, 0, by rw [e1, e2]⟩
    · exact ⟨_, p, e1⟩
  obtain ⟨A, p, e1⟩ := k h.row1
  obtain ⟨A2, p2, e2⟩ := k h.row2
  exact ⟨A, p, A2, p2, e1, e2⟩
theorem wr_in {x : Int} (h1 : -3000000000 ≤ x) (h2 : x ≤ 3000000000) : wrap64 x = x ∧ IntKind.i64.wrap x = x := by
  constructor
  · unfold wrap64; omega
  · rw [IntKind.wrap_i64]; omega
theorem left_num {C s L : Nat} (h : s + (1 + L) ≤ 1000000000) (hc : C ≤ 1048576) : (wrap64 (1 + (L : Int)) = 1 + (L : Int) ∧ IntKind.i64.wrap (1 + (L : Int)) = 1 + (L : Int)) ∧ wrap64 ((C : Int) - (s : Int) - (1 + (L : Int))) = (C : Int) - (s : Int) - (1 + (L : Int)) ∧ IntKind.i64.wrap ((C : Int) - (s : Int) - (1 + (L : Int))) = (C : Int) - (s : Int) - (1 + (L : Int)) := by
  have a1 : (1 + (L : Int)) ≤ 3000000000 := by omega
  have a2 : -3000000000 ≤ (C : Int) - (s : Int) - (1 + (L : Int)) := by omega
  have a3 : (C : Int) - (s : Int) - (1 + (L : Int)) ≤ 3000000000 := by omega
  exact ⟨wr_in (by omega) a1, wr_in a2 a3⟩
set_option maxRecDepth 100000 in
set_option maxHeartbeats 1000000 in
theorem left_dw (h : RdAt w O c d mb D q) (hq : q.sum ≤ 1000000000) (hc : q.cells ≤ 1048576) :
    Calls Try.prog 21 #[.pointer (some ⟨d, 0, none⟩)] w fun x w' => x = .returned (.int .i64 ((q.cells : Int) - (q.sum : Int))) ∧ Below w.heap.size w w' := by
  obtain ⟨e0, e1, e2, e3, e4⟩ := five_at h.obj.1
  have hown := h.map.own
  have hti : Tidy D := hown.tidy keyS
  have hmbl := h.map.lt
  have HA := Lib.hid (show sumL (Maps.has D) D = q.sum by
    obtain ⟨es, rfl, _, hk⟩ := hown.entries keyS
    rw [sum_all hti hk]; exact h.sum)
  have H := Lib.hid h
  have HTI := Lib.hid hti
  clear h e0 e3 e4 hti
  go_enter Try.func21, Try.ntmps21
  go_wp2_with (first
    | (at_range; refine wpList_range_own _ rfl _ 46 rfl 9 53 keyS Try.underlying46 _ mb q.n _ rfl hown ?_; intro w0 hrg0 hg0 hs0)
    | go_in)
  have hb0 : Below w.heap.size w w0 := ⟨hg0.os, hg0.tape, hg0.output, hg0.size, fun k hk => hg0.block k hk (by simp)⟩
  go_frame
  go_loopw [3] (fun v wr => ∃ (left : Lit → Bool) (cnt s : Nat), wr.ranges Try.prog 9 tok mb w.heap.size q.n D left cnt ∧ (∀ k, left k = true → Maps.has D k = true) ∧ sumL left D + s = q.sum ∧ v = .int .i64 ((q.cells : Int) - (s : Int)) ∧ Below w.heap.size w wr)
    (fun _ wr => wr.rangeLeft mb w.heap.size)
  case atStart => exact ⟨_, _, 0, hrg0, fun k hk => hk, HA.out, by simp, hb0⟩
  case round =>
    obtain ⟨left, cnt, s, hrg, hle, hsu, rfl, hb⟩ := hrel
    clear hrg0 hg0 hb0 hs0
    go_wp2_with (first
      | (at_next; refine next_tab _ rfl _ rfl mb w.heap.size q.n D left cnt rfl hrg ?_ ?_)
      | go_in)
    · intro hl0
      rw [sum_none hl0] at hsu
      go_wp2_with fail
      go_ret
      exact ⟨by rw [← hsu]; simp, hb⟩
    · intro x v w1 cnt1 hl hat hrg1 hlt hg1 hen
      obtain ⟨l, hT⟩ := Option.isSome_iff_exists.1 (show (q.T x.data.toList).isSome = true by rw [← H.out.map.has]; exact hle _ hl)
      obtain ⟨v1, v2, k1, k2, k3, k4⟩ := H.out.map.tells _ l hT
      have ev : v = .agg #[v1, v2] := by
        have := hat (.held (.bool true))
        rw [k1] at this
        cases this
        rfl
      subst ev
      have hw : wtV (.agg #[v1, v2]) = 1 + l.length := RefT.weight k2.ref
      obtain ⟨A1, p1, A2, p2, rfl, rfl⟩ := RefT.shape k2.ref
      have hst := sum_strike HTI.out hl (hle _ hl) hat
      rw [show wtD (.held (.agg #[.slice A1 l.length p1, .slice A2 l.length p2])) = 1 + l.length from hw] at hst
      have hb1 : Below w.heap.size w w1 := hb.trans ⟨hg1.os, hg1.tape, hg1.output, hg1.size, fun k hk => hg1.block k (by have := hb.size; omega) (by simp; omega)⟩
      have hsl : s + (1 + l.length) ≤ 1000000000 := by omega
      obtain ⟨⟨w1', w3'⟩, w2', w4'⟩ := left_num hsl hc
      have HX := Lib.hid hst
      have HS := Lib.hid hsu
      clear hst hsu hw hT k1 k2 k3 k4 hat
      go_wp2_with fail
      go_roundw
      case rel => exact ⟨_, cnt1, s + (1 + l.length), hrg1.alloc _, fun k hk => hle k (by simp at hk; exact hk.1), by rw [← HX.out] at HS; have := HS.out; omega, by congr 1; omega, hb1.trans (Below.alloc (Below.refl _ _) (by have := hb1.size; omega) _)⟩
      case measure => rw [(hrg1.alloc _).left_eq, hrg.left_eq]; exact hlt
end
end Go.Proofs.Ytjeppcaniafgpaa.Rx
