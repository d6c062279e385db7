/-
  The reference of layer 18, mathematics: what is learnt, as the document says it: what a sign needs, the tables that are set, the text behind it.
  The reference of layer 18: the contract of Learn.
  The reference of layer 18: the contract of Learn (its walk).
-/
import Derived.Test.YteacmcckhjabmaaRcxRead
import Derived.Deep.RegionHeld3
import Derived.Deep.CutBlock
section
set_option linter.unusedVariables false
set_option linter.unusedSimpArgs false
namespace Go.Proofs.Yteacmcckhjabmaa.Rx
open Go.RowKit Go.Maps
open Fq
open Rc
open Cx (Tl TOk tok_nil tok_add tok_len)
namespace Rd
/-- What the table of the last k bytes needs. -/
def need1 (q : Rd) (s k : Nat) : Nat := match q.at' k with
  | none => 2
  | some l => if hasB l s then 0 else 1
def needs (q : Rd) (s a : Nat) : Nat → Nat
  | 0 => 0
  | n + 1 => q.needs s a n + q.need1 s (a + n)
/-- How many tables there are to be, from a on. -/
def room (q : Rd) (a : Nat) : Nat := min q.order q.hist.length + 1 - a
def forget (q : Rd) : Rd := ⟨q.order, q.cells, q.rs + 1, fun _ => none, [], 0, 0⟩
def put (q : Rd) (t : List UInt8) (l : Tl) : Rd := ⟨q.order, q.cells, q.rs, setT q.T t l, q.hist, q.sum + (1 + l.length) - wtT (q.T t), q.n + 1⟩
def addAt (q : Rd) (s k : Nat) : Rd := q.put (lastK q.hist k) (addT ((q.at' k).getD []) s)
def addN (q : Rd) (s a : Nat) : Nat → Rd
  | 0 => q
  | n + 1 => (q.addN s a n).addAt s (a + n)
def wr (q : Rd) (s : Nat) : Rd := ⟨q.order, q.cells, q.rs, q.T, q.hist ++ [UInt8.ofNat s], q.sum, q.n⟩
def learn1 (q : Rd) (s a : Nat) : Rd := (q.addN s a (q.room a)).wr s
def full (q : Rd) (s a : Nat) : Bool := decide (q.cells < q.sum + q.needs s a (q.room a))
def learn (q : Rd) (s : Nat) (f : Int) : Rd := if q.full s (max f 0).toNat then q.forget.learn1 s 0 else q.learn1 s (max f 0).toNat
variable {q : Rd}
theorem addN_parts (q : Rd) (s a : Nat) : ∀ n, (q.addN s a n).order = q.order ∧ (q.addN s a n).cells = q.cells ∧ (q.addN s a n).rs = q.rs ∧ (q.addN s a n).hist = q.hist ∧ (q.addN s a n).n = q.n + n
  | 0 => ⟨rfl, rfl, rfl, rfl, rfl⟩
  | n + 1 => by
    obtain ⟨h1, h2, h3, h4, h5⟩ := addN_parts q s a n
    exact ⟨h1, h2, h3, h4, by show (q.addN s a n).n + 1 = _; omega⟩
theorem need1_le (q : Rd) (s k : Nat) : q.need1 s k ≤ 2 := by
  unfold need1
  split
  · omega
  · split <;> omega
theorem needs_le (q : Rd) (s a : Nat) : ∀ n, q.needs s a n ≤ 2 * n
  | 0 => Nat.le_refl _
  | n + 1 => by
    have h1 := needs_le q s a n
    have h2 := need1_le q s (a + n)
    show q.needs s a n + q.need1 s (a + n) ≤ _
    omega
end Rd
section
variable {cs : List Nat} {w w' : World} {O O' : Paint} {c d mb : Nat} {D : Dv} {q : Rd} {v1 v2 : Value} {t : Option Tl}
theorem has_place (l : Tl) (s : Nat) : (hasB l s = true ∧ 0 ≤ placeI l s) ∨ (hasB l s = false ∧ placeI l s = -1) := by
  unfold hasB placeI
  by_cases h : find l s < l.length
  · left
    rw [if_pos h]
    exact ⟨decide_eq_true h, by omega⟩
  · right
    rw [if_neg h]
    exact ⟨decide_eq_false h, rfl⟩
theorem at_dw (h : RowsC w O c v1 v2 t) (s : Nat) (hs : s < 256) : Calls Try.prog 81 #[.agg #[v1, v2], .int .u8 (s : Int)] w fun x w' => x = .returned (.int .i64 (placeI (t.getD []) s)) ∧ Below w.heap.size w w' := by
  by_cases hn : t.getD [] = []
  · obtain ⟨rfl, rfl⟩ := h.nil0 hn
    rw [hn]
    exact at_none s
  · exact at_more h.ref.ref (fun x hx => by have := h.ok.1 x hx; omega) (List.length_pos_iff.2 hn) s hs
theorem add_dw (h : RowsC w O c v1 v2 t) (s : Nat) (hs : s < 256) : Calls Try.prog 83 #[.agg #[v1, v2], .int .u8 (s : Int)] w fun x w' => ∃ u1 u2 O', x = .returned (.agg #[u1, u2]) ∧ RefC w' O' c u1 u2 (addT (t.getD []) s) ∧ Step [] w O w' O' := by
  refine (radd_any h.ref.ref h.nil0 h.ok.1 (by have := tok_len h.ok; omega) s hs).mono ?_
  rintro x w' ⟨u1, u2, rfl, hr, hb, k1, k2⟩
  exact ⟨u1, u2, Step.paint O w c, rfl, ⟨hr, fun k hk => Step.paint_new (k1 k hk), fun k hk => Step.paint_new (k2 k hk)⟩, Step.of_below hb O c⟩
/-- What a call leaves of contexts. -/
def DwTo (w : World) (O : Paint) (c d : Nat) (q : Rd) (w' : World) : Prop := ∃ O' mb' D', Step [c] w O w' O' ∧ RdAt w' O' c d mb' D' q
theorem RdAt.put (h : RdAt w O c d mb D q) (hN : q.n ≤ 100000000) {s : ByteArray} (hs : s.size ≤ 1000000) {l : Tl} (hr : RefC w O c v1 v2 l) (hl : TOk l) (h0 : l ≠ []) :
    ∃ w' D', (Instr.mapUpdate 131 (.map (some mb)) (.string s) (.agg #[v1, v2])).run Try.prog w = .ok () w' ∧ Step [c] w O w' O ∧ RdAt w' O c d mb D' (q.put s.data.toList l) := by
  obtain ⟨w', D', hrun, hst, hm, hsu⟩ := h.map.set hN hs hr hl h0
  refine ⟨w', D', hrun, hst, ⟨?_, hm, ?_⟩⟩
  · have hne : d ≠ mb := by
      rintro rfl
      obtain ⟨es, clock, hb, _⟩ := h.map.own
      rw [h.obj.1] at hb
      cases hb
    have hg : w.grownBy w' (some mb) := by
      obtain ⟨w'', hrun', _, hg⟩ := h.map.own.update keyS Try.underlying131 (by unfold maxLen; omega) (key_of hs) (val := .agg #[v1, v2]) (d := .held (.agg #[v1, v2])) (ps := []) rfl
      rw [hrun] at hrun'
      cases hrun'
      exact hg
    exact ⟨(hg.block d h.obj.lt (by simpa using hne)).trans h.obj.1, h.obj.2⟩
  · rw [h.sum] at hsu
    show sumD D' = q.sum + (1 + l.length) - wtT (q.T s.data.toList)
    omega
end
end Go.Proofs.Yteacmcckhjabmaa.Rx
end
section
set_option linter.unusedVariables false
set_option linter.unusedSimpArgs false
namespace Go.Proofs.Yteacmcckhjabmaa.Rx
open Go.RowKit Go.Maps
open Fq
open Rc
open Cx (Tl TOk tok_nil tok_add tok_len)
theorem one_byte {W : World} {k b : Nat} (hb : b < 256) (hc : W.cell? ⟨k, 0, none⟩ = some (.int .u8 (b : Int))) : (convert 73 9 (.slice (some ⟨k, 0, none⟩) 1 1)).run Try.prog W = .ok (.string ⟨#[UInt8.ofNat b]⟩) W := by
  have h := run_convert_bytes_back W 73 9 5 ⟨k, 0, none⟩ 1 [UInt8.ofNat b] Try.underlying73 Try.underlying5 Try.underlying9 (fun j hj => by
    simp at hj
    subst hj
    rw [show (⟨k, 0, none⟩ : Addr).add 0 = ⟨k, 0, none⟩ from rfl, hc]
    simp
    omega)
  exact h
theorem text_one (l : List UInt8) (x : UInt8) : (⟨l.toArray⟩ : ByteArray) ++ ⟨#[x]⟩ = ⟨(l ++ [x]).toArray⟩ := by
  apply ByteArray.ext
  apply Array.toList_inj.1
  simp
section
variable {cs : List Nat} {w w' : World} {O O' : Paint} {c d mb : Nat} {D : Dv} {q q1 q2 : Rd} {v1 v2 : Value} {t : Option Tl}
theorem DwTo.from {w1 w2 : World} {O1 : Paint} (hs : Step [c] w O w1 O1) (h : DwTo w1 O1 c d q w2) : DwTo w O c d q w2 := by
  obtain ⟨O2, m2, D2, h1, h2⟩ := h
  exact ⟨O2, m2, D2, hs.trans h1, h2⟩
/-- The text is one byte more. -/
theorem RdAt.wr (h : RdAt w O c d mb D q) (s : Nat) : Step [c] w O (w.setCell ⟨d, 3, none⟩ (.string ⟨(q.hist ++ [UInt8.ofNat s]).toArray⟩)) O ∧ RdAt (w.setCell ⟨d, 3, none⟩ (.string ⟨(q.hist ++ [UInt8.ofNat s]).toArray⟩)) O c d mb D (q.wr s) := by
  have hne : mb ≠ d := by
    rintro rfl
    obtain ⟨es, clock, hb, _⟩ := h.map.own
    rw [h.obj.1] at hb
    cases hb
  have hb := h.obj.setCell 3 (.string ⟨(q.hist ++ [UInt8.ofNat s]).toArray⟩)
  have hs : Step [c] w O (w.setCell ⟨d, 3, none⟩ (.string ⟨(q.hist ++ [UInt8.ofNat s]).toArray⟩)) O := (Step.refl [c] w O).setCell (p := ⟨d, 3, none⟩) (.inl (by simp [h.obj.2])) _
  refine ⟨hs, ⟨hb, ?_, h.sum⟩⟩
  have ht := h.map
  have hown : ∀ {e : TypeId} {v : Value} {n : Nat} {xs : List Value}, e ≠ 133 → w.ownsRow 0 e 1 v n xs → (w.setCell ⟨d, 3, none⟩ (.string ⟨(q.hist ++ [UInt8.ofNat s]).toArray⟩)).ownsRow 0 e 1 v n xs := fun he ho => own_set ho h.obj.1 (fun e1 => he e1.symm) 3 _
  refine ⟨?_, ht.col, ht.has, fun x l hx => ?_⟩
  · obtain ⟨es, clock, hb, hr⟩ := ht.own
    exact ⟨es, clock, (Below.heap_setCell _ _ _ _ hne).trans hb, hr⟩
  · obtain ⟨u1, u2, k1, k2, k3⟩ := ht.tells x l hx
    exact ⟨u1, u2, k1, ⟨⟨hown (by decide) k2.ref.row1, hown (by decide) k2.ref.row2⟩, k2.c1, k2.c2⟩, k3⟩
/-- All is forgotten. -/
theorem RdAt.forget (h : RdAt w O c d mb D q) : DwTo w O c d q.forget ((((w.setCell ⟨d, 2, none⟩ (.map (some w.heap.size))).setCell ⟨d, 3, none⟩ (.string ⟨#[]⟩)).setCell ⟨d, 4, none⟩ (.int .i64 ((q.rs : Int) + 1))).alloc (.map #[] 0)) := by
  have hd := h.obj.lt
  have hsc : ∀ {W : World} {ds : Array Value} (i : Nat) (u : Value), Blk W O c d (.cells ds 133 (0, 0)) → Step [c] W O (W.setCell ⟨d, i, none⟩ u) O := fun i u hb => (Step.refl [c] _ O).setCell (p := ⟨d, i, none⟩) (.inl (by simp [hb.2])) u
  have o2 := h.obj.setCell 2 (.map (some w.heap.size))
  have o3 := o2.setCell 3 (.string ⟨#[]⟩)
  have o4 := o3.setCell 4 (.int .i64 ((q.rs : Int) + 1))
  have hs := (hsc 2 (.map (some w.heap.size)) h.obj).trans ((hsc 3 (.string ⟨#[]⟩) o2).trans (hsc 4 (.int .i64 ((q.rs : Int) + 1)) o3))
  have hsz : ((((w.setCell ⟨d, 2, none⟩ (.map (some w.heap.size))).setCell ⟨d, 3, none⟩ (.string ⟨#[]⟩)).setCell ⟨d, 4, none⟩ (.int .i64 ((q.rs : Int) + 1)))).heap.size = w.heap.size := by simp
  generalize (((w.setCell ⟨d, 2, none⟩ (.map (some w.heap.size))).setCell ⟨d, 3, none⟩ (.string ⟨#[]⟩)).setCell ⟨d, 4, none⟩ (.int .i64 ((q.rs : Int) + 1))) = W at *
  have s1 : Step [] W O (W.alloc (.map #[] 0)) (Step.paint O W c) := ((Step.refl [] W O).alloc _).repaint c
  refine ⟨Step.paint O W c, w.heap.size, .map [], hs.trans s1.nil, ⟨?_, tm_made ?_ ?_, rfl⟩⟩
  · have e1 : ((q.forget.rs : Nat) : Int) = (q.rs : Int) + 1 := by show ((q.rs + 1 : Nat) : Int) = _; omega
    rw [e1]
    exact o4.step s1 (by simp)
  · rw [← hsz]
    exact heap_alloc_new W _
  · exact Step.paint_new (by omega)
theorem Rd.learn_full {q : Rd} {s a : Nat} {f : Int} (ha : (max f 0).toNat = a) (h : q.cells < q.sum + q.needs s a (q.room a)) : q.learn s f = q.forget.learn1 s 0 := by
  unfold Rd.learn Rd.full
  rw [ha, decide_eq_true h]
  rfl
theorem Rd.learn_fits {q : Rd} {s a : Nat} {f : Int} (ha : (max f 0).toNat = a) (h : ¬ q.cells < q.sum + q.needs s a (q.room a)) : q.learn s f = q.learn1 s a := by
  unfold Rd.learn Rd.full
  rw [ha, decide_eq_false h]
  rfl
theorem Rd.needs_next (q : Rd) (s a j : Nat) : q.needs s a (j + 1) = q.needs s a j + q.need1 s (a + j) := rfl
theorem Rd.need1_cases (q : Rd) (s k : Nat) : (q.at' k = none ∧ q.need1 s k = 2) ∨ (∃ l, q.at' k = some l ∧ hasB l s = true ∧ q.need1 s k = 0) ∨ (∃ l, q.at' k = some l ∧ hasB l s = false ∧ q.need1 s k = 1) := by
  unfold Rd.need1
  cases h : q.at' k with
  | none => exact .inl ⟨rfl, rfl⟩
  | some l =>
    cases hb : hasB l s with
    | true => exact .inr (.inl ⟨l, rfl, hb, by simp [hb]⟩)
    | false => exact .inr (.inr ⟨l, rfl, hb, by simp [hb]⟩)
/-- A number below: the table's place of it. -/
theorem Rd.place_sign (q : Rd) (s k : Nat) : ((q.at' k).isSome = false ∧ placeI ((q.at' k).getD []) s < 0 ∧ q.need1 s k = 2) ∨ ((q.at' k).isSome = true ∧ ¬ placeI ((q.at' k).getD []) s < 0 ∧ q.need1 s k = 0) ∨ ((q.at' k).isSome = true ∧ placeI ((q.at' k).getD []) s < 0 ∧ q.need1 s k = 1) := by
  rcases q.need1_cases s k with ⟨e, h⟩ | ⟨l, e, hb, h⟩ | ⟨l, e, hb, h⟩
  · refine .inl ⟨by rw [e]; rfl, ?_, h⟩
    rw [e]
    show placeI [] s < 0
    simp [placeI, find]
  · refine .inr (.inl ⟨by rw [e]; rfl, ?_, h⟩)
    rw [e]
    rcases has_place l s with ⟨_, g⟩ | ⟨g, _⟩
    · show ¬ placeI l s < 0
      omega
    · rw [hb] at g; cases g
  · refine .inr (.inr ⟨by rw [e]; rfl, ?_, h⟩)
    rw [e]
    rcases has_place l s with ⟨g, _⟩ | ⟨_, g⟩
    · rw [hb] at g; cases g
    · show placeI l s < 0
      omega
end
end Go.Proofs.Yteacmcckhjabmaa.Rx
end
section
set_option linter.unusedVariables false
set_option linter.unusedSimpArgs false
namespace Go.Proofs.Yteacmcckhjabmaa.Rx
open Go.RowKit Go.Maps
open Fq
open Rc
open Cx (Tl TOk tok_nil tok_add tok_len)
section
variable {cs : List Nat} {w w' : World} {O O' : Paint} {c d mb : Nat} {D : Dv} {q q1 q2 : Rd} {v1 v2 : Value} {t : Option Tl}
theorem wr_up {n : Nat} (h : n ≤ 1000000) : wrap64 ((n : Int) + 1) = (n : Int) + 1 ∧ IntKind.i64.wrap ((n : Int) + 1) = (n : Int) + 1 ∧ wrap64 ((n : Int) + 1 + 1) = (n : Int) + 1 + 1 ∧ IntKind.i64.wrap ((n : Int) + 1 + 1) = (n : Int) + 1 + 1 := by
  refine ⟨?_, ?_, ?_, ?_⟩
  · unfold wrap64; omega
  · rw [IntKind.wrap_i64]; omega
  · unfold wrap64; omega
  · rw [IntKind.wrap_i64]; omega
theorem wr_gap {n k : Nat} (h : n ≤ 1000000) (hk : k ≤ n) : wrap64 ((n : Int) - (k : Int)) = (n : Int) - (k : Int) ∧ IntKind.i64.wrap ((n : Int) - (k : Int)) = (n : Int) - (k : Int) := wr_in (by omega) (by omega)
/-- What a new table of the last bytes leaves. -/
theorem learn_get (h : RdAt w O c d mb D q) {k : Nat} (hk : k ≤ q.hist.length) (hh : q.hist.length ≤ 1000000) (hn : q.n ≤ 100000000) {s : Nat} (hs : s < 256) {W : World} {OW : Paint} (hst : Step [] w O W OW) (hok : TOk ((q.at' k).getD [])) {u1 u2 : Value} (hr : RefC W OW c u1 u2 (addT ((q.at' k).getD []) s)) :
    ∃ w' D', (Instr.mapUpdate 131 (.map (some mb)) (.string ((⟨q.hist.toArray⟩ : ByteArray).extract (q.hist.length - k) q.hist.length)) (.agg #[u1, u2])).run Try.prog W = .ok () w' ∧ Step [c] W OW w' OW ∧ RdAt w' OW c d mb D' (q.addAt s k) := by
  have := (h.step hst (by simp)).put hn (s := (⟨q.hist.toArray⟩ : ByteArray).extract (q.hist.length - k) q.hist.length) (Nat.le_trans (lastK_size q.hist k) hh) hr (tok_add hok hs) (add_ne _ s)
  rw [lastK_data q.hist k hk] at this
  exact this
theorem wr_rs {n : Nat} (h : n ≤ 1000000000) : wrap64 ((n : Int) + 1) = (n : Int) + 1 ∧ IntKind.i64.wrap ((n : Int) + 1) = (n : Int) + 1 := wr_in (by omega) (by omega)
set_option maxRecDepth 100000 in
set_option maxHeartbeats 4000000 in
theorem learn_dw (h : RdAt w O c d mb D q) (ho : q.order ≤ 16) (hh : q.hist.length ≤ 900000) (hc : q.cells ≤ 1048576) (hsum : q.sum ≤ 1000000000) (hn : q.n ≤ 90000000) {s : Nat} (hs : s < 256) (f : Int) (hf : f ≤ 1000) (hrs : q.rs ≤ 1000000000) :
    Calls Try.prog 42 #[.pointer (some ⟨d, 0, none⟩), .int .u8 (s : Int), .int .i64 f] w fun x w' => x = .returned (.tuple #[]) ∧ DwTo w O c d (q.learn s f) w' := by
  have H := Lib.hid h
  have HF : Hid (∀ W, Step [] w O W O → (W.cell? ⟨d, 0, none⟩ = some (.int .i64 (q.order : Int)) ∧ W.cell? ⟨d, 3, none⟩ = some (.string ⟨q.hist.toArray⟩))) := Lib.hid (fun W hs => by
    have e := five_at (h.step hs (by simp)).obj.1
    exact ⟨e.1, e.2.2.2.1⟩)
  have es : ByteArray.size ⟨q.hist.toArray⟩ = q.hist.length := by simp [ByteArray.size]
  have HH := Lib.hid hh
  have HCC := Lib.hid hc
  have HSU := Lib.hid hsum
  have HNN := Lib.hid hn
  have HRS := Lib.hid hrs
  have HH2 := Lib.hid (Nat.le_trans hh (show 900000 ≤ 1000000 by decide))
  clear h hh hc hsum hn hrs
  go_enter Try.func42, Try.ntmps42
  go_upto_if 14 with (fail)
  go_cut [2] from 13 to 14 (fun v wc => v = .int .i64 (((max f 0).toNat : Nat) : Int) ∧ wc = w)
  case first =>
    by_cases h0 : f < 0
    · have g0 : decide (f < 0) = true := decide_eq_true h0
      go_wp2_with fail
      go_meet
      case rel => exact ⟨by show Value.int .i64 _ = _; congr 1; omega, rfl⟩
    · have g0 : decide (f < 0) = false := decide_eq_false h0
      go_wp2_with fail
      go_meet
      case rel => exact ⟨by show Value.int .i64 _ = _; congr 1; omega, rfl⟩
  case rest =>
    obtain ⟨rfl, hwc⟩ := hcut
    subst wc
    obtain ⟨a, ha⟩ : ∃ a, (max f 0).toNat = a := ⟨_, rfl⟩
    have ha1 : a ≤ 1000 := by omega
    rw [ha]
    have HA := Lib.hid ha
    clear ha
    have HZ := Lib.hid (show q.needs s a 0 = 0 from rfl)
    have HRM := Lib.hid (show q.room a = min q.order q.hist.length + 1 - a from rfl)
    have hrm : q.room a ≤ 17 := by rw [HRM.out]; omega
    have HNL := Lib.hid (Rd.needs_le q s a)
    go_upto_block 0 with (fail)
    go_cut [6, 7, 8, 9] from 15 to 48 (fun v _ _ _ wc => v = .int .i64 ((q.needs s a (q.room a) : Nat) : Int) ∧ Below w.heap.size w wc)
    case first =>
      go_wp2_with fail
      go_loopw [6, 7] (fun v i wr => ∃ j : Nat, j ≤ q.room a ∧ i = .int .i64 ((a + j : Nat) : Int) ∧ v = .int .i64 ((q.needs s a j : Nat) : Int) ∧ Below w.heap.size w wr) (fun _ i _ => a + q.room a - (intOf i).toNat)
      case atStart => exact ⟨0, Nat.zero_le _, rfl, by rw [HZ.out]; rfl, Below.refl _ _⟩
      case round =>
        obtain ⟨j, hj, rfl, rfl, hb⟩ := hrel
        have HB := Lib.hid hb
        have hsb := Step.of_below_same hb O
        have HSB := Lib.hid hsb
        obtain ⟨c0, c3⟩ := HF.out wr hsb
        have hnl := HNL.out j
        clear hb hsb
        by_cases hlt : j < q.room a
        · as_aux_lemma =>
          have g1 : ((a + j : Nat) : Int) ≤ (q.order : Int) := by rw [HRM.out] at hlt; omega
          have g2 : ((a + j : Nat) : Int) ≤ (q.hist.length : Int) := by rw [HRM.out] at hlt; omega
          have HT := Lib.hid (table_dw (H.out.step HSB.out (by simp)) ho HH2.out (a + j) (by omega))
          have HNX := Lib.hid (q.needs_next s a j)
          have hjn : j + 1 ≤ q.room a := by omega
          have hk : a + j + 1 ≤ 1017 := by omega
          have HPS := Lib.hid (q.place_sign s (a + j))
          have hnn : q.needs s a j ≤ 34 := by omega
          generalize q.needs s a j = N0 at *
          obtain ⟨kk, hkk⟩ : ∃ kk, kk = a + j := ⟨_, rfl⟩
          have HKK := Lib.hid hkk
          have hms : a + q.room a - (kk + 1) < a + q.room a - kk := by omega
          rw [← hkk] at HT g1 g2 hk HPS HNX ⊢
          clear hkk hlt HZ HRM HNL hnl
          obtain ⟨w1, w2, w3, w4⟩ := wr_up (n := N0) (Nat.le_trans hnn (by decide))
          obtain ⟨w5, w6, _⟩ := wr_up (n := kk) (Nat.le_trans (Nat.le_of_succ_le hk) (by decide))
          rcases HPS.out with ⟨p1, p2, p3⟩ | ⟨p1, p2, p3⟩ | ⟨p1, p2, p3⟩
          all_goals
            rw [p1] at HT
            rw [p3] at HNX
            go_wp2_with fail
            refine HT.out.mono ?_
            rintro x w7 ⟨v1, v2, rfl, hr, hb7⟩
            obtain ⟨A1, n1, A2, n2, rfl, rfl⟩ := hr.shape
            have HB7 := Lib.hid (HB.out.trans (hb7.mono HB.out.size))
            have HAT := Lib.hid (fun W (hb : Below w7.heap.size w7 W) => at_dw (w := W) ((hr.step (Step.of_below_same hb7 O) (by simp)).step (Step.of_below_same hb O) (by simp)) s hs)
            have HB8 := Lib.hid (fun (W : World) (hb : Below (w7.alloc (.cells #[.slice A1 ((q.at' kk).getD []).length n1, .slice A2 ((q.at' kk).getD []).length n2] 81)).heap.size (w7.alloc (.cells #[.slice A1 ((q.at' kk).getD []).length n1, .slice A2 ((q.at' kk).getD []).length n2] 81)) W) => show Below w.heap.size w W from (bel_alloc _ HB7.out).trans (hb.mono (bel_alloc (.cells #[.slice A1 ((q.at' kk).getD []).length n1, .slice A2 ((q.at' kk).getD []).length n2] 81) HB7.out).size))
            have HAT2 := Lib.hid (HAT.out _ (bel_alloc (.cells #[.slice A1 ((q.at' kk).getD []).length n1, .slice A2 ((q.at' kk).getD []).length n2] 81) (Below.refl _ _)))
            clear hr hb7 HAT HT c0 c3
            generalize placeI ((q.at' kk).getD []) s = PL at *
            generalize ((q.at' kk).getD []).length = LL at *
            go_wp2_with fail
            refine HAT2.out.mono ?_
            rintro x w8 ⟨rfl, hb8⟩
            have HB9 := Lib.hid (HB8.out w8 hb8)
            clear hb8 HB8 HAT2
            go_wp2_with fail
            go_roundw
            case rel => exact ⟨j + 1, hjn, by rw [HKK.out]; go_num, by rw [HNX.out]; go_num, HB9.out⟩
            case measure => simp [intOf]; exact hms
        · obtain rfl : j = q.room a := by omega
          have HRR := Lib.hid (show ((a + q.room a : Nat) : Int) ≤ (q.order : Int) → ¬ ((a + q.room a : Nat) : Int) ≤ (q.hist.length : Int) from fun e => by rw [HRM.out] at e ⊢; omega)
          generalize q.needs s a (q.room a) = N0 at *
          generalize a + q.room a = kk at *
          clear hlt hnl hj
          by_cases g1 : (kk : Int) ≤ (q.order : Int)
          · have g2 := HRR.out g1
            go_wp2_with fail
            go_meet
            case rel => exact ⟨rfl, HB.out⟩
          · clear HRR
            go_wp2_with fail
            go_meet
            case rel => exact ⟨rfl, HB.out⟩
    case rest =>
      obtain ⟨rfl, hbc⟩ := hcut
      have hnd := HNL.out (q.room a)
      have HFIT := Lib.hid (fun (ha : (max f 0).toNat = a) h => Rd.learn_fits (q := q) (s := s) ha h)
      have HFUL := Lib.hid (fun (ha : (max f 0).toNat = a) h => Rd.learn_full (q := q) (s := s) ha h)
      have hsb := Step.of_below_same hbc O
      have hcl : q.needs s a (q.room a) ≤ 34 := by omega
      generalize q.needs s a (q.room a) = N0 at *
      have HLF := Lib.hid (left_dw (H.out.step hsb (by simp)) HSU.out HCC.out)
      have HBC := Lib.hid hbc
      clear hsb hbc hnd HZ HRM HNL
      go_wp2_with fail
      refine HLF.out.mono ?_
      rintro x w2 ⟨rfl, hb2⟩
      have HB2 := Lib.hid (HBC.out.trans (hb2.mono HBC.out.size))
      clear hb2 HLF HBC
      go_upto_if 52 with (fail)
      go_cut [2] from 52 to 66 (fun v wd => ∃ (a1 : Nat) (r1 : Rd) (O1 : Paint) (m1 : Nat) (D1 : Dv), v = .int .i64 (a1 : Int) ∧ a1 ≤ 1000 ∧ Step [c] w O wd O1 ∧ RdAt wd O1 c d m1 D1 r1 ∧ r1.order = q.order ∧ r1.hist.length ≤ 900000 ∧ r1.n ≤ 90000000 ∧ q.learn s f = r1.learn1 s a1)
      case first =>
        by_cases hf : q.cells < q.sum + N0
        · have g1 : decide ((q.cells : Int) - (q.sum : Int) < (N0 : Int)) = true := by rw [decide_eq_true_eq]; omega
          have g2 : (q.cells : Int) - (q.sum : Int) < (N0 : Int) := by omega
          have HLR := Lib.hid (HFUL.out HA.out hf)
          have hq2 := H.out.step (Step.of_below_same HB2.out O) (by simp)
          have HF2 := Lib.hid hq2.forget
          obtain ⟨e0, e1, e2, e3, e4⟩ := five_at hq2.obj.1
          have f2 := hq2.obj.free 2
          have f3 := hq2.obj.free 3
          have f4 := hq2.obj.free 4
          have hd := hq2.obj.lt
          have hm := run_makeMap (P := Try.prog) 131 w2
          obtain ⟨w1, w3⟩ := wr_rs HRS.out
          have HS2 := Lib.hid (show Step [c] w O w2 O from (Step.of_below_same HB2.out O).nil)
          clear hf hq2 e0 e1 HFIT HFUL
          go_wp2_with fail
          go_meet
          case rel =>
            obtain ⟨O3, m3, D3, s3, h3⟩ := HF2.out
            exact ⟨0, q.forget, O3, m3, D3, rfl, Nat.zero_le _, HS2.out.trans s3, h3, rfl, Nat.zero_le _, Nat.zero_le _, HLR.out⟩
        · have g1 : decide ((q.cells : Int) - (q.sum : Int) < (N0 : Int)) = false := by rw [decide_eq_false_iff_not]; omega
          have g2 : ¬ (q.cells : Int) - (q.sum : Int) < (N0 : Int) := by omega
          have HLR := Lib.hid (HFIT.out HA.out hf)
          clear hf
          go_wp2_with fail
          go_meet
          case rel => exact ⟨a, q, O, mb, D, rfl, ha1, (Step.of_below_same HB2.out O).nil, H.out.step (Step.of_below_same HB2.out O) (by simp), rfl, HH.out, HNN.out, HLR.out⟩
      case rest =>
        obtain ⟨a1, r1, O1, m1, D1, rfl, ha2, hs1, h1, ho1, hh1, hn1, hlr⟩ := hcut
        have HS1 := Lib.hid hs1
        have HLR := Lib.hid (show q.learn s f = (r1.addN s a1 (r1.room a1)).wr s from hlr)
        have HPA := Lib.hid (Rd.addN_parts r1 s a1)
        have HO1 := Lib.hid ho1
        have HH1 := Lib.hid hh1
        have HN1 := Lib.hid hn1
        have hrm1 : r1.room a1 = min q.order r1.hist.length + 1 - a1 := by unfold Rd.room; rw [ho1]
        have HRM1 := Lib.hid hrm1
        have H0 := Lib.hid (show DwTo w O c d (r1.addN s a1 0) _ from ⟨O1, m1, D1, hs1, h1⟩)
        have hro : r1.room a1 ≤ 17 := by omega
        clear hs1 h1 hh1 hn1 hlr ho1 hrm1 HRS HNN HSU HCC HH HH2 HF es HA hrm
        go_wp2_with fail
        go_loopw [10] (fun i wr => ∃ j : Nat, j ≤ r1.room a1 ∧ i = .int .i64 ((a1 + j : Nat) : Int) ∧ DwTo w O c d (r1.addN s a1 j) wr) (fun i _ => a1 + r1.room a1 - (intOf i).toNat)
        case atStart => exact ⟨0, Nat.zero_le _, rfl, H0.out⟩
        case round =>
          obtain ⟨j, hj, rfl, O3, m3, D3, hs3, h3⟩ := hrel
          have HS3 := Lib.hid hs3
          have H3 := Lib.hid h3
          obtain ⟨p1, p2, p3, p4, p5⟩ := HPA.out j
          have hq1 : (r1.addN s a1 j).order = q.order := p1.trans HO1.out
          have hn3 : (r1.addN s a1 j).n ≤ 100000000 := by rw [p5]; have := HN1.out; omega
          have hh3 : (r1.addN s a1 j).hist.length ≤ 900000 := by rw [p4]; exact HH1.out
          have HNX := Lib.hid (show r1.addN s a1 (j + 1) = (r1.addN s a1 j).addAt s (a1 + j) from rfl)
          have hl3 : (r1.addN s a1 j).hist.length = r1.hist.length := by rw [p4]
          obtain ⟨c0, _, c2, c3, _⟩ := five_at h3.obj.1
          have es : ByteArray.size ⟨(r1.addN s a1 j).hist.toArray⟩ = (r1.addN s a1 j).hist.length := by simp [ByteArray.size]
          by_cases hlt : j < r1.room a1
          · as_aux_lemma =>
            have g1 : ((a1 + j : Nat) : Int) ≤ (q.order : Int) := by rw [HRM1.out] at hlt; omega
            have g2 : ((a1 + j : Nat) : Int) ≤ ((r1.addN s a1 j).hist.length : Int) := by rw [hl3]; rw [HRM1.out] at hlt; omega
            have hjn : j + 1 ≤ r1.room a1 := by omega
            have hk : a1 + j ≤ 1000000 := by omega
            have hkh : a1 + j ≤ (r1.addN s a1 j).hist.length := by omega
            obtain ⟨kk, hkk⟩ : ∃ kk, kk = a1 + j := ⟨_, rfl⟩
            have HKK := Lib.hid hkk
            have hms : a1 + r1.room a1 - (kk + 1) < a1 + r1.room a1 - kk := by omega
            rw [← hkk] at g1 g2 hk HNX hkh ⊢
            rw [hq1] at c0
            have HT := Lib.hid (table_dw h3 (by rw [hq1]; exact ho) (Nat.le_trans hh3 (by decide)) kk hk)
            have hh4 : (r1.addN s a1 j).hist.length ≤ 1000000 := Nat.le_trans hh3 (by decide)
            have HG := Lib.hid (fun W OW (hst : Step [] wr O3 W OW) hok u1 u2 hr => learn_get (W := W) (OW := OW) (u1 := u1) (u2 := u2) h3 hkh hh4 hn3 hs hst hok hr)
            have g3 : 0 ≤ ((r1.addN s a1 j).hist.length : Int) - (kk : Int) := by omega
            have g4 : (((r1.addN s a1 j).hist.length : Int) - (kk : Int)).toNat = (r1.addN s a1 j).hist.length - kk := by omega
            have g5 : ((r1.addN s a1 j).hist.length : Int) - (kk : Int) ≤ ((r1.addN s a1 j).hist.length : Int) := by omega
            have g6 : (r1.addN s a1 j).hist.length - kk ≤ (r1.addN s a1 j).hist.length := by omega
            obtain ⟨w1, w2⟩ := wr_gap (n := (r1.addN s a1 j).hist.length) (k := kk) (Nat.le_trans hh3 (by decide)) hkh
            obtain ⟨w5, w6, _⟩ := wr_up (n := kk) hk
            clear p1 p2 p3 p4 p5 hq1 hn3 hh3 hh4 hl3 hs3 h3 hkk hlt hj
            generalize r1.addN s a1 j = qj at *
            go_wp2_with fail
            refine HT.out.mono ?_
            rintro x w4 ⟨v1, v2, rfl, hr, hb4⟩
            obtain ⟨A1, n1, A2, n2, rfl, rfl⟩ := hr.shape
            go_upto_region 18 with (fail)
            obtain ⟨ob, hob⟩ : ∃ ob, ob = Obj.cells #[.slice A1 ((qj.at' kk).getD []).length n1, .slice A2 ((qj.at' kk).getD []).length n2] 81 (0, 0) := ⟨_, rfl⟩
            have hs5 : Step [] wr O3 (w4.alloc ob) (Step.paint O3 w4 (c + 1)) := (Step.of_below_same hb4 O3).trans (((Step.refl [] w4 O3).alloc ob).repaint (c + 1))
            have hX : Blk (w4.alloc ob) (Step.paint O3 w4 (c + 1)) (c + 1) w4.heap.size ob := ⟨heap_alloc_new _ _, Step.paint_new (Nat.le_refl _)⟩
            rw [hob] at hs5 hX
            have hr5 := hr.step hs5 (by simp)
            clear hob hr hb4 c0 c2 c3
            generalize w4.alloc (.cells #[.slice A1 ((qj.at' kk).getD []).length n1, .slice A2 ((qj.at' kk).getD []).length n2] 81) = W5 at *
            generalize Step.paint O3 w4 (c + 1) = O5 at *
            generalize w4.heap.size = X at *
            have HC : Hid (∀ W OW (D2 : Dv) (q2 : Rd), RdAt W OW c d m3 D2 q2 → q2.hist = qj.hist → Blk W OW (c + 1) X (.cells #[.slice A1 ((qj.at' kk).getD []).length n1, .slice A2 ((qj.at' kk).getD []).length n2] 81 (0, 0)) → (W.cell? ⟨d, 2, none⟩ = some (.map (some m3)) ∧ W.cell? ⟨d, 3, none⟩ = some (.string ⟨qj.hist.toArray⟩) ∧ W.cell? ⟨X, 0, none⟩ = some (.slice A1 ((qj.at' kk).getD []).length n1) ∧ W.cell? ⟨X, 1, none⟩ = some (.slice A2 ((qj.at' kk).getD []).length n2))) :=
              Lib.hid (fun W OW D2 q2 h hq hx => by
                have e := five_at h.obj.1
                rw [hq] at e
                exact ⟨e.2.2.1, e.2.2.2.1, hx.cell 0, hx.cell 1⟩)
            have h5 := H3.out.step hs5 (by simp)
            obtain ⟨c2, c3, x0, x1⟩ := HC.out _ _ _ _ h5 rfl hX
            have HRA := Lib.hid (add_dw (hr5.step (Step.refl [] W5 O5).drew (by simp)) s hs)
            have HOK := Lib.hid hr5.ok
            have HS5 := Lib.hid hs5
            have H5 := Lib.hid h5
            have HX := Lib.hid hX
            clear hr5 hs5 h5 hX
            go_region_held3 (fun W' => W'.cell? ⟨d, 2, none⟩ = some (.map (some m3)) ∧ W'.cell? ⟨d, 3, none⟩ = some (.string ⟨qj.hist.toArray⟩) ∧ W'.cell? ⟨X, 0, none⟩ = some (.slice A1 ((qj.at' kk).getD []).length n1) ∧ W'.cell? ⟨X, 1, none⟩ = some (.slice A2 ((qj.at' kk).getD []).length n2)) (first | exact ⟨c2, c3, x0, x1⟩ | exact T0.out | exact T1.out | go_keep) (first | (go_at_call 83; (with_reducible refine HRA.out.mono ?_); rintro z1 w6 ⟨u1, u2, O6, rfl, hr6, hs6⟩; obtain ⟨B1, b1, B2, b2, rfl, rfl⟩ := RefT.shape hr6.ref; have hs7 := (Step.refl [] W5 O5).drew.trans hs6; have T0 := Lib.hid (HC.out _ _ _ _ (H5.out.step hs7 (by simp)) rfl (HX.out.step hs7 (by simp))); obtain ⟨w7, D7, hrun, hst7, hw7⟩ := HG.out _ _ (HS5.out.trans hs7) HOK.out _ _ hr6; have T1 := Lib.hid (HC.out _ _ _ _ hw7 rfl ((HX.out.step hs7 (by simp)).step hst7 (by simp))); have HT7 := Lib.hid ((HS5.out.trans hs7).nil.trans hst7); have HW7 := Lib.hid hw7; clear hr6 hs6 hs7 hst7 hw7))
            go_wp2_with fail
            go_roundw
            case rel => exact ⟨j + 1, hjn, by rw [HKK.out]; go_num, by rw [HNX.out]; exact ⟨_, _, _, HS3.out.trans HT7.out, HW7.out⟩⟩
            case measure => simp [intOf]; exact hms
          · obtain rfl : j = r1.room a1 := by omega
            have HRR := Lib.hid (show ((a1 + r1.room a1 : Nat) : Int) ≤ (q.order : Int) → ¬ ((a1 + r1.room a1 : Nat) : Int) ≤ ((r1.addN s a1 (r1.room a1)).hist.length : Int) from fun e => by rw [hl3]; rw [HRM1.out] at e ⊢; omega)
            rw [hq1] at c0
            have HLR2 := Lib.hid (show q.learn s f = (r1.addN s a1 (r1.room a1)).wr s from HLR.out)
            have htz : ByteArray.size ⟨(r1.addN s a1 (r1.room a1)).hist.toArray⟩ ≤ 9223372036854775806 := by rw [es]; exact Nat.le_trans hh3 (by decide)
            have hd := h3.obj.lt
            have f3 := h3.obj.free 3
            have HNV := Lib.hid hh3
            clear p1 p2 p3 p4 p5 hq1 hn3 hl3 hs3 h3 hlt hj HLR HNX hh3
            generalize r1.addN s a1 (r1.room a1) = qf at *
            generalize a1 + r1.room a1 = kk at *
            have hcv := fun (W : World) (hc : W.cell? ⟨wr.heap.size, 0, none⟩ = some (.int .u8 (s : Int))) => one_byte (W := W) (k := wr.heap.size) hs hc
            have hcw : ((wr.alloc (.cells #[.int .u8 (s : Int)] 5)).drew).cell? ⟨wr.heap.size, 0, none⟩ = some (.int .u8 (s : Int)) := by
              have := heap_alloc_new wr (.cells #[.int .u8 (s : Int)] 5)
              show (wr.alloc (.cells #[.int .u8 (s : Int)] 5)).cell? _ = _
              unfold World.cell?
              rw [this]
              rfl
            have hcv1 := hcv _ hcw
            clear hcv hcw
            have HFIN : Hid (DwTo w O c d (q.learn s f) ((wr.setCell ⟨d, 3, none⟩ (.string ((⟨qf.hist.toArray⟩ : ByteArray) ++ ⟨#[UInt8.ofNat s]⟩))).alloc (.cells #[.int .u8 (s : Int)] 5)).drew) := Lib.hid (by
              rw [HLR2.out, text_one]
              obtain ⟨k1, k2⟩ := H3.out.wr s
              have k3 : Step [] _ O3 _ O3 := ((Step.refl [] (wr.setCell ⟨d, 3, none⟩ (.string ⟨(qf.hist ++ [UInt8.ofNat s]).toArray⟩)) O3).alloc (.cells #[.int .u8 (s : Int)] 5)).drew
              exact ⟨O3, m3, D3, HS3.out.trans (k1.trans k3.nil), k2.step k3 (by simp)⟩)
            by_cases g1 : (kk : Int) ≤ (q.order : Int)
            · have g2 := HRR.out g1
              clear HRR
              go_wp2_with fail
              go_region
              all_goals
                go_wp2_with fail
                first | go_end0 | (simp only [Exit.inBlock, Exit.then]; refine bodyPost_ret (results_none rfl _ _ _) rfl ?_) | refine bodyPost_ret (results_none rfl _ _ _) rfl ?_
                exact ⟨rfl, HFIN.out⟩
            · clear HRR
              go_wp2_with fail
              go_region
              all_goals
                go_wp2_with fail
                first | go_end0 | (simp only [Exit.inBlock, Exit.then]; refine bodyPost_ret (results_none rfl _ _ _) rfl ?_) | refine bodyPost_ret (results_none rfl _ _ _) rfl ?_
                exact ⟨rfl, HFIN.out⟩
end
end Go.Proofs.Yteacmcckhjabmaa.Rx
end
