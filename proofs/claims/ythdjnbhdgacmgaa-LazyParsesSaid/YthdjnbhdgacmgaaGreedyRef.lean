/-
  The document's layer 13: contracts of Longest and Parse.
-/
import Derived.Test.YthdjnbhdgacmgaaGreedyMath
import Derived.Test.YthdjnbhdgacmgaaPiece
import Derived.Test.YthdjnbhdgacmgaaPackRefRepeat
import Derived.Test.YthdjnbhdgacmgaaChainRef
import Derived.Test.YthdjnbhdgacmgaaChainFindsWalk
import Derived.Test.YthdjnbhdgacmgaaPackAppliesBase
set_option linter.unusedVariables false
namespace Go.Proofs.Ythdjnbhdgacmgaa.Gr
open Go.RowKit
open Mt
open Ch (foundL bt bt_at bt_lt Founds)
open Pk (Rp Pt IsPts repL rrep flatP PtsT)
set_option maxHeartbeats 1000000 in
theorem rlongest_any (s : ByteArray) (p : Nat) (window cut : Int) (hp : p ≤ s.size) (hs : s.size ≤ 1000000000) (w : World) :
    Calls Try.prog 20 #[.string s, .int .i64 (p : Int), .int .i64 window, .int .i64 cut] w fun x w' => x = .returned (pv (best s window cut p)) ∧ Below w.heap.size w w' := by
  have hb1 : Below w.heap.size w (w.alloc (.cells #[.int .i64 0, .int .i64 0] 54)) := (Below.refl _ _).alloc (Nat.le_refl _) _
  have hz := heap_alloc_new w (.cells #[.int .i64 0, .int .i64 0] 54)
  have HBN := Lib.hid (fun e => best_none (s := s) (window := window) (cut := cut) (p := p) e)
  have HBL : Hid (∀ (n : Nat) (y : Nat × Nat), (foundL s window cut p).length = n + 1 → (foundL s window cut p)[n]? = some y → best s window cut p = y) := Lib.hid (fun n y e h => by
    rw [best_last e]
    rw [List.getElem?_eq_getElem (by omega)] at h
    exact Option.some.inj h)
  have HAT := Lib.hid (fun W => Ch.at_any s p window cut hp hs W)
  go_enter Try.func20, Try.ntmps20
  go_upto_region 1 with (fail)
  generalize w.alloc (.cells #[.int .i64 0, .int .i64 0] 54) = W1 at *
  have HPP : Hid (∃ P, P = w.heap.size) := Lib.hid ⟨_, rfl⟩
  obtain ⟨P, hP⟩ := HPP.out
  rw [← hP] at hz
  have hPw : w.heap.size ≤ P := by omega
  have HB1 := Lib.hid hb1
  clear hb1
  rw [← hP]
  clear hP HPP
  go_wp2_with fail
  refine (HAT.out W1).mono ?_
  rintro x w3 ⟨v3, rfl, hfo, hb3⟩
  have hz1 := (hb3.block P (lt_of_heap hz)).trans hz
  have HB3 := Lib.hid (HB1.out.trans (hb3.mono HB1.out.size))
  have HZ := Lib.hid hz1
  have HFO := Lib.hid hfo
  obtain ⟨_, y0, y1, hlz⟩ := two_cells hz1
  have hll := hfo.small
  obtain ⟨l, hl⟩ : ∃ l, l = foundL s window cut p := ⟨_, rfl⟩
  rw [← hl] at HFO HBN HBL hll
  clear hl hb3 hz hz1 HAT hfo HB1
  have HR2 : Hid (∀ u1 u2 : Value, ((w3.setCell ⟨P, 0, none⟩ u1).setCell ⟨P, 1, none⟩ u2).cell? ⟨P, 0, none⟩ = some u1 ∧ ((w3.setCell ⟨P, 0, none⟩ u1).setCell ⟨P, 1, none⟩ u2).cell? ⟨P, 1, none⟩ = some u2) := Lib.hid (fun u1 u2 => by
    have h1 := heap_setCell_same _ _ 1 _ _ u2 (heap_setCell_same w3 _ 0 _ _ u1 HZ.out)
    simp at h1
    exact (two_cells h1).1)
  have HRES : Hid (∀ u1 u2 : Value, Below w.heap.size w ((w3.setCell ⟨P, 0, none⟩ u1).setCell ⟨P, 1, none⟩ u2)) := Lib.hid (fun u1 u2 => Pk.bel_set _ hPw (Pk.bel_set _ hPw HB3.out))
  obtain ⟨A, cap, rfl⟩ := HFO.out.slice
  cases hn : l.length with
  | zero =>
    have HV := Lib.hid (HBN.out (List.eq_nil_of_length_eq_zero hn))
    clear HBN HBL
    go_wp2_with fail
    obtain ⟨r0, r1⟩ := HR2.out (.int .i64 0) (.int .i64 0)
    refine bodyPost_ret (v := .agg #[.int .i64 0, .int .i64 0]) ?_ rfl ?_
    · simp [results, Try.results20, go_sem, r0, r1]
    · exact ⟨by rw [HV.out]; rfl, HRES.out _ _⟩
  | succ n =>
    have HV := Lib.hid (HBL.out n l[n] hn (List.getElem?_eq_getElem (by omega)))
    obtain ⟨g, rfl, hc⟩ := HFO.out.cells (by omega)
    obtain ⟨d0, d1⟩ := hc n (by omega)
    have hwn : IntKind.i64.wrap (((n + 1 : Nat) : Int) - 1) = (n : Int) := by rw [IntKind.wrap_i64]; omega
    clear HBN HBL hc
    obtain ⟨y, hy⟩ : ∃ y, y = l[n] := ⟨_, rfl⟩
    rw [← hy] at HV d0 d1
    clear hy HFO
    go_wp2_with fail
    obtain ⟨r0, r1⟩ := HR2.out (.int .i64 (y.1 : Int)) (.int .i64 (y.2 : Int))
    refine bodyPost_ret (v := .agg #[.int .i64 (y.1 : Int), .int .i64 (y.2 : Int)]) ?_ rfl ?_
    · simp [results, Try.results20, go_sem, r0, r1]
    · exact ⟨by rw [HV.out]; rfl, HRES.out _ _⟩
/-- A list of the document's packets that is made, since w0. -/
structure RfAt (w0 w : World) (v : Value) (l : List Pt) : Prop where
  row : PtsT 51 w v l
  below : Below w0.heap.size w0 w
  own : ∀ k, v.ownBlock = some k → w0.heap.size ≤ k
theorem RfAt.news {w0 w w' : World} {v : Value} {l : List Pt} (h : RfAt w0 w v l) (hb : Below w.heap.size w w') : RfAt w0 w' v l := ⟨h.row.below hb, h.below.trans (hb.mono h.below.size), h.own⟩
theorem RfAt.app {w0 w w' : World} {v v' : Value} {l : List Pt} {n : Nat} {o : Obj} {p : Pt} (h : RfAt w0 w v l) (hn : l.length = n) (hown : w'.ownsRow 0 51 4 v' (n + 1) (flatP l ++ [.int .i64 p.k, .int .i64 p.d, .int .i64 p.n, .int .u8 (p.b : Int)])) (hg : (w.alloc o).grownBy w' v.ownBlock) (hm : Moved (w.alloc o) v v') : RfAt w0 w' v' (l ++ [p]) := by
  refine ⟨?_, ?_, ?_⟩
  · unfold PtsT
    rw [List.length_append, Pk.flatP_append, hn]
    exact hown
  · exact h.below.trans ((((Frame.refl (fun k => v.ownBlock = some k) w).alloc o).grown hg (fun k hk => .inl hk)).below h.below.size (fun k hk ho => by have := h.own k ho; omega))
  · intro k hk
    rcases hm with e | e
    · rw [e] at hk; exact h.own k hk
    · have h1 := e k hk
      rw [World.size_alloc] at h1
      have := h.below.size
      omega
theorem RfAt.keep {w0 w w' : World} {v : Value} {l : List Pt} {o : Obj} {X : Nat} {ds : Array Value} {t : TypeId} (h : RfAt w0 w v l) (hX : w.heap[X]? = some (.cells ds t (0, 0))) (ht : t ≠ 51) (hg : (w.alloc o).grownBy w' v.ownBlock) : w'.heap[X]? = some (.cells ds t (0, 0)) := by
  have hno := Pk.row4_not h.row hX ht
  have hb := hg.block X (by rw [World.size_alloc]; have := lt_of_heap hX; omega) (fun e => hno e.symm)
  rw [Below.heap_alloc w o X (lt_of_heap hX)] at hb
  exact hb.trans hX
/-- A list of the document's packets was handed back. -/
def RTold (w : World) (qs : List Pt) (x : Ending) (w' : World) : Prop := ∃ a cap, x = .returned (.slice a qs.length cap) ∧ Below w.heap.size w w' ∧ IsPts w' a qs
theorem ragain_any {w0 w : World} {a : Option Addr} {ps : List Pt} {cap : Nat} (hb0 : Below w0.heap.size w0 w) (h : IsPts w a ps) (hl : ps.length ≤ 1000) (hb : ∀ p ∈ rrep ps ⟨1, 1, 1, 1⟩ ⟨1, 1, 1, 1⟩, p.b < 256) :
    Calls Try.prog 21 #[.slice a ps.length cap] w (RTold w0 (rrep ps ⟨1, 1, 1, 1⟩ ⟨1, 1, 1, 1⟩)) := by
  refine (Pk.rrepeat_any h hl cap).mono ?_
  rintro x w' ⟨v, rfl, hp, hb'⟩
  obtain ⟨a', cap', rfl, hi⟩ := hp.slice hb
  exact ⟨a', cap', rfl, hb0.trans (hb'.mono hb0.size), hi⟩
set_option maxRecDepth 100000 in
set_option maxHeartbeats 4000000 in
theorem rparse_any (s : ByteArray) (window cut : Int) (w : World) (hs : s.size ≤ 1000) :
    Calls Try.prog 18 #[.string s, .int .i64 window, .int .i64 cut] w (RTold w (rrep (parse s (best s window cut) 0) ⟨1, 1, 1, 1⟩ ⟨1, 1, 1, 1⟩)) := by
  have hc := best_ok s window cut
  have HC := Lib.hid hc
  have HLO := Lib.hid (fun k (hk : k ≤ s.size) W => rlongest_any s k window cut hk (by omega) W)
  have HBY := Lib.hid (Pk.rrep_bytes (parse s (best s window cut) 0) ⟨1, 1, 1, 1⟩ ⟨1, 1, 1, 1⟩ (parse_bytes s (best s window cut) 0))
  have HL0 : Hid (RfAt w w (.slice none 0 0) []) := Lib.hid ⟨World.ownsRow_nil _ _ _ _, Below.refl _ _, fun k hk => by simp [Value.ownBlock] at hk⟩
  clear hc
  go_enter Try.func18, Try.ntmps18
  go_wp2_with fail
  obtain ⟨i0, hi, hz0, hz1, hz2⟩ := info_parts Pk.infoPr
  have HI := Lib.hid hi
  have HZ0 := Lib.hid hz0
  have HZ1 := Lib.hid hz1
  have HZ2 := Lib.hid hz2
  clear hi hz0 hz1 hz2
  generalize hcd : best s window cut = c at *
  clear hcd
  go_loopw [7, 8] (fun v i wr => ∃ (k : Nat) (l : List Pt), k ≤ s.size ∧ i = .int .i64 k ∧ RfAt w wr v l ∧ l ++ parse s c k = parse s c 0 ∧ l.length ≤ k) (fun _ i _ => s.size - (intOf i).toNat)
  case atStart => exact ⟨0, [], by omega, rfl, HL0.out, rfl, by simp⟩
  case round =>
    clear HL0
    obtain ⟨k, l, hk, rfl, hL, hE, hll⟩ := hrel
    obtain ⟨wo, rfl⟩ : ∃ wo : World, wo = wr := ⟨_, rfl⟩
    by_cases hlt : k < s.size
    · have HE := Lib.hid (show (l ++ [pkt s k (c k)]) ++ parse s c (k + size1 (c k)) = parse s c 0 by rw [← hE, parse_more HC.out hlt]; simp)
      have h1 := size1_pos (HC.out k)
      have h2 := size1_le hlt (HC.out k)
      have HPV : Hid (pv (c k) = .agg #[.int .i64 ((c k).1 : Int), .int .i64 ((c k).2 : Int)]) := Lib.hid rfl
      have HL1 := Lib.hid (HLO.out k hk wo)
      rw [HPV.out] at HL1
      have hbk := bt_at hlt
      have HL := Lib.hid hL
      have hOK := HC.out k
      have hm1 : l.length + 1 ≤ maxLen := by unfold maxLen; omega
      have hm2 : (l.length + 1) * 32 ≤ 140737488355328 := by omega
      clear hE hL HPV HLO
      have hzero : (c k = (0, 0) ∧ (c k).1 = 0 ∧ pkt s k (c k) = ⟨1, 0, 0, bt s k⟩ ∧ size1 (c k) = 1) ∨ ((c k).1 ≠ 0 ∧ pkt s k (c k) = ⟨2, ((c k).2 : Int), ((c k).1 : Int), 0⟩ ∧ size1 (c k) = (c k).1) := by
        rcases hOK with h | ⟨h3, _⟩
        · left; rw [h]; exact ⟨rfl, rfl, rfl, rfl⟩
        · right
          have hne : c k ≠ (0, 0) := fun e => by rw [e] at h3; simp at h3
          refine ⟨by omega, ?_, ?_⟩
          · unfold pkt; rw [if_neg hne]
          · unfold size1; rw [if_neg hne]
      clear hOK
      generalize pkt s k (c k) = pk at *
      generalize size1 (c k) = sz at *
      generalize (c k).2 = xd at *
      generalize (c k).1 = xn at *
      go_wp2_with fail
      refine HL1.out.mono ?_
      rintro x w3 ⟨rfl, hb3⟩
      have hL3 := HL.out.news hb3
      have hb4 : Below w3.heap.size w3 (w3.alloc (.cells #[.int .i64 (xn : Int), .int .i64 (xd : Int)] 54)) := (Below.refl _ _).alloc (Nat.le_refl _) _
      have hL4 := hL3.news hb4
      have hx4 := heap_alloc_new w3 (.cells #[.int .i64 (xn : Int), .int .i64 (xd : Int)] 54)
      clear hb3 hL3 hb4 HL1 HL
      go_upto_region 5 with (fail)
      generalize w3.alloc (.cells #[.int .i64 (xn : Int), .int .i64 (xd : Int)] 54) = w4 at *
      generalize w3.heap.size = X at *
      obtain ⟨⟨p0, p1⟩, _, _, hXl⟩ := two_cells hx4
      have HL4 := Lib.hid hL4
      have HX4 := Lib.hid hx4
      have HROW := Lib.hid hL4.row
      have e1 : (0 : Int) ≤ (k : Int) := by omega
      have e2 : (k : Int) < (s.size : Int) := by omega
      clear hL4
      rcases hzero with ⟨_, h0, hpk, hsz⟩ | ⟨h0, hpk, hsz⟩
      · as_aux_lemma =>
        subst hpk hsz h0
        rw [← hbk] at HE
        clear hbk
        go_wp2_with (at_builtin; refine wpList_append_one _ rfl _ _ 49 rfl 51 i0 (.agg #[.int .i64 0, .int .i64 0, .int .i64 0, .int .u8 0]) 4 32 Try.underlying49 HI.out HZ0.out HZ1.out HZ2.out rfl (by decide) u7 l.length _ rfl (HROW.out.alloc _) ⟨w4.heap.size, 0, none⟩ 1 [.int .i64 1, .int .i64 0, .int .i64 0, .int .u8 (s[k].toNat : Int)] rfl rfl (Pk.pr_new _ _ _ _ _) (Pk.pt_one 1 0 0 _) hm1 hm2 ?_; intro g9 cap9 w12 hown12 hgr12 hmv12; have HTT := Lib.hid (HL4.out.app (p := ⟨1, 0, 0, s[k].toNat⟩) rfl hown12 hgr12 hmv12); obtain ⟨⟨p0, p1⟩, _⟩ := two_cells (HL4.out.keep HX4.out (by decide) hgr12); clear hown12 hgr12 hmv12)
        go_roundw
        case rel => exact ⟨k + 1, _, by omega, by go_num, HTT.out, HE.out, by simp; omega⟩
        case measure => simp [intOf]; omega
      · as_aux_lemma =>
        subst hpk hsz
        have hd0 : ((sz : Int) == 0) = false := by rw [beq_eq_false_iff_ne]; omega
        have hwk : IntKind.i64.wrap ((k : Int) + (sz : Int)) = (k : Int) + (sz : Int) := by rw [IntKind.wrap_i64]; omega
        go_wp2_with (at_builtin; refine wpList_append_one _ rfl _ _ 49 rfl 51 i0 (.agg #[.int .i64 0, .int .i64 0, .int .i64 0, .int .u8 0]) 4 32 Try.underlying49 HI.out HZ0.out HZ1.out HZ2.out rfl (by decide) u7 l.length _ rfl (HROW.out.alloc _) ⟨w4.heap.size, 0, none⟩ 1 [.int .i64 2, .int .i64 (xd : Int), .int .i64 (sz : Int), .int .u8 ((0 : Nat) : Int)] rfl rfl (Pk.pr_new _ _ _ _ _) (Pk.pt_one 2 _ _ 0) hm1 hm2 ?_; intro g9 cap9 w12 hown12 hgr12 hmv12; have HTT := Lib.hid (HL4.out.app (p := ⟨2, (xd : Int), (sz : Int), 0⟩) rfl hown12 hgr12 hmv12); obtain ⟨⟨p0, p1⟩, _⟩ := two_cells (HL4.out.keep HX4.out (by decide) hgr12); clear hown12 hgr12 hmv12)
        go_roundw
        case rel => exact ⟨k + sz, _, by omega, by go_num, HTT.out, HE.out, by simp; omega⟩
        case measure => simp [intOf]; omega
    · obtain rfl : k = s.size := by omega
      rw [parse_end (Nat.le_refl _), List.append_nil] at hE
      subst hE
      obtain ⟨A, cap, rfl, hpts⟩ := hL.row.slice (parse_bytes s c 0)
      have HAG := Lib.hid (ragain_any (cap := cap) hL.below hpts (by have := parse_length s c 0; omega) HBY.out)
      clear hL HLO HBY hpts
      go_wp2_with fail
      refine HAG.out.mono ?_
      rintro x w3 ⟨a, cap3, rfl, hb3, hI3⟩
      have HE : Hid (RTold w (rrep (parse s c 0) ⟨1, 1, 1, 1⟩ ⟨1, 1, 1, 1⟩) (.returned (.slice a (rrep (parse s c 0) ⟨1, 1, 1, 1⟩ ⟨1, 1, 1, 1⟩).length cap3)) w3) := Lib.hid ⟨a, cap3, rfl, hb3, hI3⟩
      clear hb3 hI3 HAG
      go_wp2_with fail
      go_ret
      exact HE.out
end Go.Proofs.Ythdjnbhdgacmgaa.Gr
