/-
  The reference of layer 18: the map of tables by their texts: what it is in memory, what it tells, how it is set, and gone through.
  The reference of layer 18: contexts in memory; the contracts of New and Left.
  The reference of layer 18: the contract of Table.
  The reference of layer 18: the contract of Longest.
-/
import Derived.Test.YteacmcckhjabmaaFreqRef
import Derived.Test.YteacmcckhjabmaaCtxMath
import Derived.Maps.OwnSet
import Derived.Maps.RangeWalk
import Derived.Test.YteacmcckhjabmaaContextNew
import Derived.Test.YteacmcckhjabmaaFreqCountsWalk
import Derived.RegionTactic
import Derived.BigRegion
import Derived.Laws.ResultCell
section
set_option linter.unusedVariables false
set_option linter.unusedSimpArgs false
namespace Go.Proofs.Yteacmcckhjabmaa.Rx
open Go.RowKit Go.Maps
open Fq
open Cx (Tl TOk)
abbrev Dv := DataW Value
def tok (v : Value) : Option (Dv × List MemPlace) := some (.held v, [])
def wtV (v : Value) : Nat := match v with
  | .agg cs => (match cs.toList with
    | Value.slice _ n _ :: _ => 1 + n
    | _ => 0)
  | _ => 0
def wtD (d : Dv) : Nat := match d with
  | .held v => wtV v
  | _ => 0
def sumE (es : List (Lit × Dv)) : Nat := (es.map fun p => wtD p.2).sum
def entsD (D : Dv) : List (Lit × Dv) := match D with
  | .map es => es
  | _ => []
def sumD (D : Dv) : Nat := sumE (entsD D)
def sumL (left : Lit → Bool) (D : Dv) : Nat := sumE ((entsD D).filter fun p => left p.1)
theorem sum_insert (x : Lit × Dv) : ∀ l : List (Lit × Dv), sumE (DataW.insert x l) = wtD x.2 + sumE l
  | [] => by simp [DataW.insert, sumE]
  | y :: r => by
    have ih := sum_insert x r
    unfold DataW.insert
    split
    · simp [sumE]
    · simp only [sumE, List.map_cons, List.sum_cons] at ih ⊢
      omega
theorem sum_split {k : Lit} : ∀ es : List (Lit × Dv), es.Pairwise (fun p q => p.1 ≠ q.1) → sumE (es.filter fun p => !p.1.sameKey k) + (match es.find? (fun p => p.1.sameKey k) with
    | some p => wtD p.2
    | none => 0) = sumE es
  | [], _ => rfl
  | p :: es, h => by
    obtain ⟨h1, h2⟩ := List.pairwise_cons.1 h
    have ih := sum_split (k := k) es h2
    by_cases hp : p.1.sameKey k = true
    · have hk := WideAt.sameKey_eq hp
      have hall : ∀ q ∈ es, q.1.sameKey k = false := fun q hq => Maps.sameKey_ne (fun e => h1 q hq (by rw [hk, e]))
      have hf : es.filter (fun p => !p.1.sameKey k) = es := List.filter_eq_self.2 (fun q hq => by rw [hall q hq]; rfl)
      have e1 : List.find? (fun p => p.1.sameKey k) (p :: es) = some p := by simp [List.find?_cons, hp]
      rw [List.filter_cons_of_neg (by simp [hp]), e1, hf]
      simp only [sumE, List.map_cons, List.sum_cons]
      omega
    · have hp' : p.1.sameKey k = false := by simpa using hp
      have e1 : List.find? (fun p => p.1.sameKey k) (p :: es) = List.find? (fun p => p.1.sameKey k) es := by simp [List.find?_cons, hp']
      rw [List.filter_cons_of_pos (by simp [hp']), e1]
      simp only [sumE, List.map_cons, List.sum_cons] at ih ⊢
      omega
theorem find_has {es : List (Lit × Dv)} {k : Lit} (z : Dv) : (match es.find? (fun p => p.1.sameKey k) with
    | some p => wtD p.2
    | none => 0) = if Maps.has (.map es) k = true then wtD ((DataW.map es).atKey k z) else 0 := by
  rw [Maps.has_eq]
  cases hf : es.find? (fun p => p.1.sameKey k) with
  | none =>
    have : es.any (fun p => p.1.sameKey k) = false := by
      rw [List.any_eq_false]
      intro p hp
      exact List.find?_eq_none.1 hf p hp
    rw [this]
    rfl
  | some p =>
    have : es.any (fun p => p.1.sameKey k) = true := List.any_eq_true.2 ⟨p, List.mem_of_find?_eq_some hf, List.find?_some (p := fun (p : Lit × Dv) => p.1.sameKey k) hf⟩
    rw [this]
    simp [DataW.atKey, hf]
theorem sum_put {D : Dv} {k : Lit} {d : Dv} (h : Tidy D) (z : Dv) : sumD (D.put k d) + (if Maps.has D k = true then wtD (D.atKey k z) else 0) = sumD D + wtD d := by
  obtain ⟨es, rfl, hap⟩ := h
  have h1 := sum_split (k := k) es hap
  rw [find_has z] at h1
  show sumE (DataW.insert (k, d) (es.filter fun p => !p.1.sameKey k)) + _ = sumE es + _
  rw [sum_insert]
  exact (Nat.add_assoc _ _ _).trans ((congrArg (wtD d + ·) h1).trans (Nat.add_comm _ _))
/-- One entry is gone through. -/
theorem sum_strike {D : Dv} {k : Lit} {d : Dv} {left : Lit → Bool} (h : Tidy D) (hl : left k = true) (hh : Maps.has D k = true) (ha : ∀ z, D.atKey k z = d) : sumL (fun x => left x && !x.sameKey k) D + wtD d = sumL left D := by
  obtain ⟨es, rfl, hap⟩ := h
  have h1 := sum_split (k := k) (es.filter fun p => left p.1) (hap.filter _)
  have h2 : (es.filter fun p => left p.1).filter (fun p => !p.1.sameKey k) = es.filter fun p => left p.1 && !p.1.sameKey k := by
    rw [List.filter_filter]
    congr 1
    funext p
    exact Bool.and_comm _ _
  have h3 : (es.filter fun p => left p.1).find? (fun p => p.1.sameKey k) = es.find? (fun p => p.1.sameKey k) := by
    rw [List.find?_filter]
    congr 1
    funext p
    cases hs : p.1.sameKey k with
    | false => simp
    | true => rw [WideAt.sameKey_eq hs, hl]; rfl
  rw [h2, h3, find_has d, hh, if_pos rfl, ha] at h1
  exact h1
theorem sum_none {D : Dv} {left : Lit → Bool} (h : ∀ k, left k = false) : sumL left D = 0 := by
  unfold sumL
  rw [List.filter_eq_nil_iff.2 (fun p _ => by rw [h]; simp)]
  rfl
theorem sum_all {D : Dv} (h : Tidy D) (hk : ∀ p ∈ entsD D, WideAt.IsKeyLit p.1) : sumL (Maps.has D) D = sumD D := by
  obtain ⟨es, rfl, hap⟩ := h
  unfold sumL sumD entsD
  dsimp only
  rw [List.filter_eq_self.2 (fun p hp => by rw [Maps.has_eq]; exact List.any_eq_true.2 ⟨p, hp, WideAt.sameKey_self (hk p hp)⟩)]
theorem keyS : Keyed Try.prog 9 := string_keyed Try.underlying9
theorem key_of {s : ByteArray} (hs : s.size ≤ 1000000) : keyOf Try.prog 9 (.string s) = some (.string s.data.toList) := by
  unfold keyOf
  rw [Try.underlying9]
  simp [mapKey, Try.underlying9]
  unfold maxLen
  omega
/-- A table of the reference; its rows belong to c. -/
structure RefC (w : World) (O : Paint) (c : Nat) (v1 v2 : Value) (l : Tl) : Prop where
  ref : RefT w v1 v2 l
  c1 : ∀ k, v1.ownBlock = some k → O k = c
  c2 : ∀ k, v2.ownBlock = some k → O k = c
/-- Block b is a map of tables: for each text it tells T. -/
structure TmAt (w : World) (O : Paint) (c b N : Nat) (D : Dv) (T : List UInt8 → Option Tl) : Prop where
  own : w.ownsMap Try.prog 9 tok b N D
  col : O b = c
  has : ∀ t, Maps.has D (.string t) = (T t).isSome
  tells : ∀ t l, T t = some l → ∃ v1 v2, (∀ z, D.atKey (.string t) z = .held (.agg #[v1, v2])) ∧ RefC w O c v1 v2 l ∧ TOk l ∧ l ≠ []
section
variable {cs : List Nat} {w w' : World} {O O' : Paint} {c b N N' : Nat} {D : Dv} {T : List UInt8 → Option Tl} {v1 v2 : Value} {l : Tl}
theorem RefC.step (h : RefC w O c v1 v2 l) (hs : Step cs w O w' O') (hc : c ∉ cs) : RefC w' O' c v1 v2 l :=
  ⟨⟨ownsRow_frame h.ref.row1 hs.frame (fun k hk ho => hc (by rw [h.c1 k hk] at ho; exact ho)), ownsRow_frame h.ref.row2 hs.frame (fun k hk ho => hc (by rw [h.c2 k hk] at ho; exact ho))⟩,
    fun k hk => (hs.ext k (ownsRow_lt h.ref.row1 k hk)).trans (h.c1 k hk), fun k hk => (hs.ext k (ownsRow_lt h.ref.row2 k hk)).trans (h.c2 k hk)⟩
/-- Behind a write of the map alone. -/
theorem RefC.grown (h : RefC w O c v1 v2 l) {es : Array MapEntry} {clock : Nat} (hb : w.heap[b]? = some (.map es clock)) (hg : w.grownBy w' (some b)) : RefC w' O c v1 v2 l := by
  have key : ∀ (e : TypeId) (v : Value) (n : Nat) (xs : List Value), w.ownsRow 0 e 1 v n xs → w'.ownsRow 0 e 1 v n xs := by
    intro e v n xs ho
    refine ⟨ho.1, ?_⟩
    rcases ho.2 with h2 | ⟨g, cap, cur, rfl, h3, h4, h5⟩
    · exact .inl h2
    · refine .inr ⟨g, cap, cur, rfl, h3, (hg.block g (lt_of_heap h4) (fun e => ?_)).trans h4, h5⟩
      cases e
      rw [hb] at h4
      cases h4
  exact ⟨⟨key _ _ _ _ h.ref.row1, key _ _ _ _ h.ref.row2⟩, h.c1, h.c2⟩
theorem TmAt.lt (h : TmAt w O c b N D T) : b < w.heap.size := h.own.lt
theorem TmAt.step (h : TmAt w O c b N D T) (hs : Step cs w O w' O') (hc : c ∉ cs) : TmAt w' O' c b N D T := by
  have hl := h.lt
  obtain ⟨es, clock, hb, hF, g1, g2⟩ := h.own
  exact ⟨⟨es, clock, (hs.block hl (by rw [h.col]; exact hc)).trans hb, hF, g1, g2⟩, (hs.ext b hl).trans h.col, h.has, fun t l ht => by
    obtain ⟨v1, v2, k1, k2, k3⟩ := h.tells t l ht
    exact ⟨v1, v2, k1, k2.step hs hc, k3⟩⟩
theorem tm_made {w : World} {O : Paint} {c b : Nat} (h : w.heap[b]? = some (.map #[] 0)) (hc : O b = c) : TmAt w O c b 0 (.map []) (fun _ => none) :=
  ⟨⟨#[], 0, h, ⟨by simp, MapKept.stamped_empty 0, by simp⟩, Nat.le_refl _, rfl⟩, hc, fun _ => rfl, fun t l ht => by cases ht⟩
theorem zeroT (w : World) : (zeroValue 81).run Try.prog w = .ok (.agg #[.slice none 0 0, .slice none 0 0]) w := by kernel_rfl
theorem TmAt.look_yes (h : TmAt w O c b N D T) {s : ByteArray} (hs : s.size ≤ 1000000) (ht : T s.data.toList = some l) : ∃ v1 v2, (Instr.lookup 131 (.map (some b)) (.string s) true).run Try.prog w = .ok (.tuple #[.agg #[v1, v2], .bool true]) w ∧ RefC w O c v1 v2 l ∧ TOk l ∧ l ≠ [] := by
  obtain ⟨v1, v2, k1, k2, k3⟩ := h.tells _ l ht
  obtain ⟨v, ps, hrun, hv⟩ := h.own.look_ok keyS Try.underlying131 (zeroT w) (zd := .held (.agg #[.slice none 0 0, .slice none 0 0])) (zp := []) rfl (key_of hs)
  rw [k1] at hv
  have e : v = .agg #[v1, v2] := by
    unfold tok at hv
    simp at hv
    exact hv.1
  subst e
  refine ⟨v1, v2, ?_, k2, k3⟩
  rw [hrun, h.has, ht]
  rfl
theorem TmAt.look_no (h : TmAt w O c b N D T) {s : ByteArray} (hs : s.size ≤ 1000000) (ht : T s.data.toList = none) : (Instr.lookup 131 (.map (some b)) (.string s) true).run Try.prog w = .ok (.tuple #[.agg #[.slice none 0 0, .slice none 0 0], .bool false]) w := by
  obtain ⟨v, ps, hrun, hv⟩ := h.own.look_ok keyS Try.underlying131 (zeroT w) (zd := .held (.agg #[.slice none 0 0, .slice none 0 0])) (zp := []) rfl (key_of hs)
  have hn : Maps.has D (.string s.data.toList) = false := by rw [h.has, ht]; rfl
  rw [Maps.atKey_of_not_has hn] at hv
  have e : v = .agg #[.slice none 0 0, .slice none 0 0] := by
    unfold tok at hv
    simp at hv
    exact hv.1
  subst e
  rw [hrun, hn]
def setT (T : List UInt8 → Option Tl) (t : List UInt8) (l : Tl) : List UInt8 → Option Tl := fun x => if x = t then some l else T x
/-- A table's weight. -/
def wtT (x : Option Tl) : Nat := match x with
  | none => 0
  | some l => 1 + l.length
theorem RefT.weight (h : RefT w v1 v2 l) : wtV (.agg #[v1, v2]) = 1 + l.length := by
  rcases h.row1.2 with ⟨e1, e2⟩ | ⟨g, cap, cur, e1, _⟩
  · rw [e1]
    show 1 + 0 = _
    rw [e2]
  · rw [e1]
    rfl
theorem TmAt.set (h : TmAt w O c b N D T) (hN : N ≤ 100000000) {s : ByteArray} (hs : s.size ≤ 1000000) (hr : RefC w O c v1 v2 l) (hl : TOk l) (h0 : l ≠ []) :
    ∃ w' D', (Instr.mapUpdate 131 (.map (some b)) (.string s) (.agg #[v1, v2])).run Try.prog w = .ok () w' ∧ Step [c] w O w' O ∧ TmAt w' O c b (N + 1) D' (setT T s.data.toList l) ∧ sumD D' + wtT (T s.data.toList) = sumD D + (1 + l.length) := by
  obtain ⟨w', hrun, ho, hg⟩ := h.own.update keyS Try.underlying131 (by unfold maxLen; omega) (key_of hs) (val := .agg #[v1, v2]) (d := .held (.agg #[v1, v2])) (ps := []) rfl
  have hst : Step [c] w O w' O := (Step.refl [c] w O).grown hg (fun j hj => by cases hj; exact .inl (by simp [h.col]))
  have hk : WideAt.IsKeyLit (.string s.data.toList) := keyS.key (key_of hs)
  have hti : Tidy D := h.own.tidy keyS
  have hbm : ∃ es clock, w.heap[b]? = some (.map es clock) := by
    obtain ⟨es, clock, hb, _⟩ := h.own
    exact ⟨es, clock, hb⟩
  obtain ⟨es, clock, hb⟩ := hbm
  refine ⟨w', _, hrun, hst, ⟨ho, h.col, fun t => ?_, fun t m ht => ?_⟩, ?_⟩
  · unfold setT
    by_cases e : t = s.data.toList
    · subst e
      rw [Maps.has_put_same h.own.isMap hk, if_pos rfl]
      rfl
    · rw [Maps.has_put_other (by simpa using e), if_neg e]
      exact h.has t
  · unfold setT at ht
    by_cases e : t = s.data.toList
    · subst e
      rw [if_pos rfl] at ht
      cases ht
      exact ⟨v1, v2, fun z => Maps.atKey_put_same h.own.isMap hk _ z, hr.grown hb hg, hl, h0⟩
    · rw [if_neg e] at ht
      obtain ⟨u1, u2, k1, k2, k3⟩ := h.tells t m ht
      exact ⟨u1, u2, fun z => by rw [Maps.atKey_put_other (by simpa using e)]; exact k1 z, k2.grown hb hg, k3⟩
  · have h1 := sum_put (k := .string s.data.toList) (d := .held (.agg #[v1, v2])) hti (.held (.agg #[v1, v2]))
    have e1 : wtD (.held (.agg #[v1, v2])) = 1 + l.length := RefT.weight hr.ref
    have e2 : (if Maps.has D (.string s.data.toList) = true then wtD (D.atKey (.string s.data.toList) (.held (.agg #[v1, v2]))) else 0) = wtT (T s.data.toList) := by
      rw [h.has]
      cases hT : T s.data.toList with
      | none => rfl
      | some m =>
        obtain ⟨u1, u2, k1, k2, k3⟩ := h.tells _ m hT
        rw [k1]
        exact RefT.weight k2.ref
    rw [e1, e2] at h1
    exact h1
end
end Go.Proofs.Yteacmcckhjabmaa.Rx
end
section
set_option linter.unusedVariables false
set_option linter.unusedSimpArgs false
namespace Go.Proofs.Yteacmcckhjabmaa.Rx
open Go.RowKit Go.Maps
open Fq
open Rc
open Cx (Tl TOk clip clip_in)
/-- Contexts of the document, as numbers: n: how often a table was set. -/
structure Rd where
  order : Nat
  cells : Nat
  rs : Nat
  T : List UInt8 → Option Tl
  hist : List UInt8
  sum : Nat
  n : Nat
structure RdAt (w : World) (O : Paint) (c d : Nat) (mb : Nat) (D : Dv) (q : Rd) : Prop where
  obj : Blk w O c d (.cells #[.int .i64 (q.order : Int), .int .i64 (q.cells : Int), .map (some mb), .string ⟨q.hist.toArray⟩, .int .i64 (q.rs : Int)] 133 (0, 0))
  map : TmAt w O c mb q.n D q.T
  sum : sumD D = q.sum
section
variable {cs : List Nat} {w w' : World} {O O' : Paint} {c d mb : Nat} {D : Dv} {q : Rd}
theorem RdAt.step (h : RdAt w O c d mb D q) (hs : Step cs w O w' O') (hc : c ∉ cs) : RdAt w' O' c d mb D q := ⟨h.obj.step hs hc, h.map.step hs hc, h.sum⟩
theorem five_at {w : World} {X : Nat} {a b c d e : Value} {t : TypeId} (h : w.heap[X]? = some (.cells #[a, b, c, d, e] t (0, 0))) :
    w.cell? ⟨X, 0, none⟩ = some a ∧ w.cell? ⟨X, 1, none⟩ = some b ∧ w.cell? ⟨X, 2, none⟩ = some c ∧ w.cell? ⟨X, 3, none⟩ = some d ∧ w.cell? ⟨X, 4, none⟩ = some e := by
  refine ⟨?_, ?_, ?_, ?_, ?_⟩ <;> simp [World.cell?, h]
theorem clip_any (n a b : Int) (w : World) : Calls Try.prog 78 #[.int .i64 n, .int .i64 a, .int .i64 b] w fun x w' => x = .returned (.int .i64 (clip n a b)) ∧ w = w' := by
  have hc : (n < a ∧ clip n a b = a) ∨ (¬ n < a ∧ b < n ∧ clip n a b = b) ∨ (¬ n < a ∧ ¬ b < n ∧ clip n a b = n) := by
    unfold clip
    split
    · exact .inl ⟨by assumption, rfl⟩
    · split
      · exact .inr (.inl ⟨by assumption, by assumption, rfl⟩)
      · exact .inr (.inr ⟨by assumption, by assumption, rfl⟩)
  rcases hc with ⟨h1, h2⟩ | ⟨h1, h3, h2⟩ | ⟨h1, h3, h2⟩
  all_goals
    rw [h2]
    clear h2
    go_enter Try.func78, Try.ntmps78
    go_wp2_with fail
    go_ret
    exact ⟨rfl, rfl⟩
def rdNew (o n : Int) : Rd := ⟨(clip o 0 16).toNat, (clip n 64 1048576).toNat, 0, fun _ => none, [], 0, 0⟩
theorem new_dw (o n : Int) (w : World) (O : Paint) (c : Nat) :
    Calls Try.prog 36 #[.int .i64 o, .int .i64 n] w fun x w' => ∃ O' d mb D, x = .returned (.pointer (some ⟨d, 0, none⟩)) ∧ Step [] w O w' O' ∧ RdAt w' O' c d mb D (rdNew o n) := by
  have hm := Lib.hid (fun W => run_makeMap (P := Try.prog) 131 W)
  obtain ⟨k1, _⟩ := clip_in (n := o) (a := 0) (b := 16) (by omega)
  obtain ⟨k2, _⟩ := clip_in (n := n) (a := 64) (b := 1048576) (by omega)
  have H1 := Lib.hid (clip_any o 0 16)
  have H2 := Lib.hid (clip_any n 64 1048576)
  have HK : Hid (∃ O' d mb D, (Ending.returned (.pointer (some ⟨w.heap.size + 1, 0, none⟩)) = .returned (.pointer (some ⟨d, 0, none⟩))) ∧ Step [] w O ((w.alloc (.map #[] 0)).alloc (.cells #[.int .i64 (clip o 0 16), .int .i64 (clip n 64 1048576), .map (some w.heap.size), .string ⟨#[]⟩, .int .i64 0] 133)) O' ∧ RdAt ((w.alloc (.map #[] 0)).alloc (.cells #[.int .i64 (clip o 0 16), .int .i64 (clip n 64 1048576), .map (some w.heap.size), .string ⟨#[]⟩, .int .i64 0] 133)) O' c d mb D (rdNew o n)) := by
    refine Lib.hid ⟨Step.paint O w c, w.heap.size + 1, w.heap.size, .map [], rfl, (((Step.refl [] w O).alloc _).alloc _).repaint c, ⟨⟨?_, Step.paint_new (Nat.le_succ _)⟩, ?_, rfl⟩⟩
    · have := heap_alloc_new (w.alloc (.map #[] 0)) (.cells #[.int .i64 (clip o 0 16), .int .i64 (clip n 64 1048576), .map (some w.heap.size), .string ⟨#[]⟩, .int .i64 0] 133)
      rw [World.size_alloc] at this
      rw [this]
      have e1 : ((rdNew o n).order : Int) = clip o 0 16 := by unfold rdNew; dsimp only; omega
      have e2 : ((rdNew o n).cells : Int) = clip n 64 1048576 := by unfold rdNew; dsimp only; omega
      rw [e1, e2]
      rfl
    · refine tm_made ?_ (Step.paint_new (Nat.le_refl _))
      rw [Below.heap_alloc _ _ _ (by simp)]
      exact heap_alloc_new w _
  clear k1 k2
  generalize clip o 0 16 = A at *
  generalize clip n 64 1048576 = B at *
  go_enter Try.func36, Try.ntmps36
  go_wp2_with fail
  refine (H1.out _).mono ?_
  rintro x w1 ⟨rfl, rfl⟩
  go_wp2_with fail
  refine (H2.out _).mono ?_
  rintro x w1 ⟨rfl, rfl⟩
  have hm1 := hm.out w
  go_wp2_with fail
  go_ret
  exact HK.out
section
variable {P : Program} {ops : Array Oper} {rest : List Oper} {o : Oper} {a : Act} {Q : Exit → Act → World → Prop}
/-- A round of a range over tables. -/
theorem next_tab (w : World) (hg : o.guard = none) (it : Operand) (hop : o.op = Op.next it false) (b r n : Nat) (D : Dv) (left : Lit → Bool) (cnt : Nat)
    (hit : a.eval it = .pointer (some ⟨r, 0, none⟩)) (h : w.ranges Try.prog 9 tok b r n D left cnt)
    (hDone : (∀ kl, left kl = false) → wpList Try.prog ops Q rest (a.put o.dst (.tuple #[.bool false])) w)
    (hMore : ∀ (x : ByteArray) (v : Value) (w' : World) (cnt' : Nat), left (.string x.data.toList) = true → (∀ zd, D.atKey (.string x.data.toList) zd = .held v) → w'.ranges Try.prog 9 tok b r n D (fun z => left z && !z.sameKey (.string x.data.toList)) cnt' → cnt' < cnt →
      w.grownBy w' (some r) → (Instr.entry (.pointer (some ⟨r, 0, none⟩))).run Try.prog w' = .ok (.tuple #[.string x, v]) w' → wpList Try.prog ops Q rest (a.put o.dst (.tuple #[.bool true, .string x, v])) w') :
    wpList Try.prog ops Q (o :: rest) a w := by
  refine wpList_next_ranges w hg it hop 9 keyS tok Value.string (fun v => v) ?_ (fun v y _ => ⟨v, rfl⟩) b r n D left cnt hit h (fun _ hl => hDone hl) ?_
  · intro key kl hk
    cases key <;> simp [keyOf, Try.underlying9, mapKey] at hk
    exact ⟨_, rfl⟩
  · intro x v kl y w' cnt' hk hl hv hat hrg hlt hgr hsz hen
    have e1 : kl = .string x.data.toList := by
      simp [keyOf, Try.underlying9, mapKey] at hk
      exact hk.2.symm
    have e2 : y.1 = .held v := by
      unfold tok at hv
      cases hv
      rfl
    subst e1
    rw [e2] at hat
    exact hMore x v w' cnt' hl hat hrg hlt hgr hen
end
theorem RefT.shape {w : World} {v1 v2 : Value} {l : Tl} (h : RefT w v1 v2 l) : ∃ A p A2 p2, v1 = .slice A l.length p ∧ v2 = .slice A2 l.length p2 := by
  have k : ∀ {e : TypeId} {v : Value} {xs : List Value}, w.ownsRow 0 e 1 v l.length xs → ∃ A p, v = .slice A l.length p := by
    intro e v xs h
    rcases h.2 with ⟨e1, e2⟩ | ⟨g, p, cur, e1, _⟩
    · exact ⟨none, 0, by rw [e1, e2]⟩
    · exact ⟨_, p, e1⟩
  obtain ⟨A, p, e1⟩ := k h.row1
  obtain ⟨A2, p2, e2⟩ := k h.row2
  exact ⟨A, p, A2, p2, e1, e2⟩
theorem wr_in {x : Int} (h1 : -3000000000 ≤ x) (h2 : x ≤ 3000000000) : wrap64 x = x ∧ IntKind.i64.wrap x = x := by
  constructor
  · unfold wrap64; omega
  · rw [IntKind.wrap_i64]; omega
theorem left_num {C s L : Nat} (h : s + (1 + L) ≤ 1000000000) (hc : C ≤ 1048576) : (wrap64 (1 + (L : Int)) = 1 + (L : Int) ∧ IntKind.i64.wrap (1 + (L : Int)) = 1 + (L : Int)) ∧ wrap64 ((C : Int) - (s : Int) - (1 + (L : Int))) = (C : Int) - (s : Int) - (1 + (L : Int)) ∧ IntKind.i64.wrap ((C : Int) - (s : Int) - (1 + (L : Int))) = (C : Int) - (s : Int) - (1 + (L : Int)) := by
  have a1 : (1 + (L : Int)) ≤ 3000000000 := by omega
  have a2 : -3000000000 ≤ (C : Int) - (s : Int) - (1 + (L : Int)) := by omega
  have a3 : (C : Int) - (s : Int) - (1 + (L : Int)) ≤ 3000000000 := by omega
  exact ⟨wr_in (by omega) a1, wr_in a2 a3⟩
set_option maxRecDepth 100000 in
set_option maxHeartbeats 1000000 in
theorem left_dw (h : RdAt w O c d mb D q) (hq : q.sum ≤ 1000000000) (hc : q.cells ≤ 1048576) :
    Calls Try.prog 82 #[.pointer (some ⟨d, 0, none⟩)] w fun x w' => x = .returned (.int .i64 ((q.cells : Int) - (q.sum : Int))) ∧ Below w.heap.size w w' := by
  obtain ⟨e0, e1, e2, e3, e4⟩ := five_at h.obj.1
  have hown := h.map.own
  have hti : Tidy D := hown.tidy keyS
  have hmbl := h.map.lt
  have HA := Lib.hid (show sumL (Maps.has D) D = q.sum by
    obtain ⟨es, rfl, _, hk⟩ := hown.entries keyS
    rw [sum_all hti hk]; exact h.sum)
  have H := Lib.hid h
  have HTI := Lib.hid hti
  clear h e0 e3 e4 hti
  go_enter Try.func82, Try.ntmps82
  go_wp2_with (first
    | (at_range; refine wpList_range_own _ rfl _ 131 rfl 9 81 keyS Try.underlying131 _ mb q.n _ rfl hown ?_; intro w0 hrg0 hg0 hs0)
    | go_in)
  have hb0 : Below w.heap.size w w0 := ⟨hg0.os, hg0.tape, hg0.output, hg0.size, fun k hk => hg0.block k hk (by simp)⟩
  go_frame
  go_loopw [3] (fun v wr => ∃ (left : Lit → Bool) (cnt s : Nat), wr.ranges Try.prog 9 tok mb w.heap.size q.n D left cnt ∧ (∀ k, left k = true → Maps.has D k = true) ∧ sumL left D + s = q.sum ∧ v = .int .i64 ((q.cells : Int) - (s : Int)) ∧ Below w.heap.size w wr)
    (fun _ wr => wr.rangeLeft mb w.heap.size)
  case atStart => exact ⟨_, _, 0, hrg0, fun k hk => hk, HA.out, by simp, hb0⟩
  case round =>
    obtain ⟨left, cnt, s, hrg, hle, hsu, rfl, hb⟩ := hrel
    clear hrg0 hg0 hb0 hs0
    go_wp2_with (first
      | (at_next; refine next_tab _ rfl _ rfl mb w.heap.size q.n D left cnt rfl hrg ?_ ?_)
      | go_in)
    · intro hl0
      rw [sum_none hl0] at hsu
      go_wp2_with fail
      go_ret
      exact ⟨by rw [← hsu]; simp, hb⟩
    · intro x v w1 cnt1 hl hat hrg1 hlt hg1 hen
      obtain ⟨l, hT⟩ := Option.isSome_iff_exists.1 (show (q.T x.data.toList).isSome = true by rw [← H.out.map.has]; exact hle _ hl)
      obtain ⟨v1, v2, k1, k2, k3, k4⟩ := H.out.map.tells _ l hT
      have ev : v = .agg #[v1, v2] := by
        have := hat (.held (.bool true))
        rw [k1] at this
        cases this
        rfl
      subst ev
      have hw : wtV (.agg #[v1, v2]) = 1 + l.length := RefT.weight k2.ref
      obtain ⟨A1, p1, A2, p2, rfl, rfl⟩ := RefT.shape k2.ref
      have hst := sum_strike HTI.out hl (hle _ hl) hat
      rw [show wtD (.held (.agg #[.slice A1 l.length p1, .slice A2 l.length p2])) = 1 + l.length from hw] at hst
      have hb1 : Below w.heap.size w w1 := hb.trans ⟨hg1.os, hg1.tape, hg1.output, hg1.size, fun k hk => hg1.block k (by have := hb.size; omega) (by simp; omega)⟩
      have hsl : s + (1 + l.length) ≤ 1000000000 := by omega
      obtain ⟨⟨w1', w3'⟩, w2', w4'⟩ := left_num hsl hc
      have HX := Lib.hid hst
      have HS := Lib.hid hsu
      clear hst hsu hw hT k1 k2 k3 k4 hat
      go_wp2_with fail
      go_roundw
      case rel => exact ⟨_, cnt1, s + (1 + l.length), hrg1.alloc _, fun k hk => hle k (by simp at hk; exact hk.1), by rw [← HX.out] at HS; have := HS.out; omega, by congr 1; omega, hb1.trans (Below.alloc (Below.refl _ _) (by have := hb1.size; omega) _)⟩
      case measure => rw [(hrg1.alloc _).left_eq, hrg.left_eq]; exact hlt
end
end Go.Proofs.Yteacmcckhjabmaa.Rx
end
section
set_option linter.unusedVariables false
set_option linter.unusedSimpArgs false
namespace Go.Proofs.Yteacmcckhjabmaa.Rx
open Go.RowKit Go.Maps
open Fq
open Rc
open Cx (Tl TOk)
/-- The last k bytes. -/
def lastK (h : List UInt8) (k : Nat) : List UInt8 := h.drop (h.length - k)
namespace Rd
def at' (q : Rd) (k : Nat) : Option Tl := if k ≤ q.order ∧ k ≤ q.hist.length then q.T (lastK q.hist k) else none
end Rd
/-- A table, or none: no rows. -/
structure RowsC (w : World) (O : Paint) (c : Nat) (v1 v2 : Value) (t : Option Tl) : Prop where
  ref : RefC w O c v1 v2 (t.getD [])
  ok : TOk (t.getD [])
  isS : ∀ l, t = some l → l ≠ []
  isN : t = none → v1 = .slice none 0 0 ∧ v2 = .slice none 0 0
section
variable {cs : List Nat} {w w' : World} {O O' : Paint} {c d mb : Nat} {D : Dv} {q : Rd} {v1 v2 : Value} {t : Option Tl}
theorem rows_none (w : World) (O : Paint) (c : Nat) : RowsC w O c (.slice none 0 0) (.slice none 0 0) none :=
  ⟨⟨⟨World.ownsRow_nil _ _ _ _, World.ownsRow_nil _ _ _ _⟩, (fun k hk => by simp [Value.ownBlock] at hk), (fun k hk => by simp [Value.ownBlock] at hk)⟩, Cx.tok_nil, (fun l hl => by cases hl), fun _ => ⟨rfl, rfl⟩⟩
theorem RowsC.step (h : RowsC w O c v1 v2 t) (hs : Step cs w O w' O') (hc : c ∉ cs) : RowsC w' O' c v1 v2 t := ⟨h.ref.step hs hc, h.ok, h.isS, h.isN⟩
theorem RowsC.nil0 (h : RowsC w O c v1 v2 t) : t.getD [] = [] → v1 = .slice none 0 0 ∧ v2 = .slice none 0 0 := by
  intro e
  cases ht : t with
  | none => exact h.isN ht
  | some l =>
    rw [ht] at e
    exact absurd e (h.isS l ht)
theorem lastK_data (h : List UInt8) (k : Nat) (hk : k ≤ h.length) : ((⟨h.toArray⟩ : ByteArray).extract (h.length - k) h.length).data.toList = lastK h k := by
  unfold lastK
  simp
  rw [List.take_of_length_le (by simp)]
theorem lastK_size (h : List UInt8) (k : Nat) : ((⟨h.toArray⟩ : ByteArray).extract (h.length - k) h.length).size ≤ h.length := by
  simp [ByteArray.size]
/-- The map is asked. -/
theorem RdAt.look (h : RdAt w O c d mb D q) (hh : q.hist.length ≤ 1000000) (k : Nat) (hk : k ≤ q.hist.length) :
    ∃ A1 p1 A2 p2, (∀ W, Step [] w O W O → (Instr.lookup 131 (.map (some mb)) (.string ((⟨q.hist.toArray⟩ : ByteArray).extract (q.hist.length - k) q.hist.length)) true).run Try.prog W = .ok (.tuple #[.agg #[.slice A1 ((q.T (lastK q.hist k)).getD []).length p1, .slice A2 ((q.T (lastK q.hist k)).getD []).length p2], .bool (q.T (lastK q.hist k)).isSome]) W) ∧ RowsC w O c (.slice A1 ((q.T (lastK q.hist k)).getD []).length p1) (.slice A2 ((q.T (lastK q.hist k)).getD []).length p2) (q.T (lastK q.hist k)) := by
  have hs := Nat.le_trans (lastK_size q.hist k) hh
  have he := lastK_data q.hist k hk
  cases hT : q.T (lastK q.hist k) with
  | none =>
    refine ⟨none, 0, none, 0, fun W hW => ?_, rows_none w O c⟩
    have := (h.map.step hW (by simp)).look_no hs (by rw [he]; exact hT)
    rw [this]
    rfl
  | some l =>
    obtain ⟨v1, v2, k1, k2, k3⟩ := h.map.tells _ l hT
    obtain ⟨A1, p1, A2, p2, rfl, rfl⟩ := RefT.shape k2.ref
    refine ⟨A1, p1, A2, p2, fun W hW => ?_, ⟨k2, k3.1, fun m hm => (by cases hm; exact k3.2), (fun e => by cases e)⟩⟩
    obtain ⟨u1, u2, g1, _⟩ := (h.map.step hW (by simp)).look_yes hs (by rw [he]; exact hT)
    obtain ⟨v, ps, hrun, hv⟩ := (h.map.step hW (by simp)).own.look_ok keyS Try.underlying131 (zeroT W) (zd := .held (.agg #[.slice none 0 0, .slice none 0 0])) (zp := []) rfl (key_of hs)
    rw [he, k1] at hv
    have e : v = .agg #[.slice A1 l.length p1, .slice A2 l.length p2] := by
      unfold tok at hv
      simp at hv
      exact hv.1
    rw [hrun, e, he, h.map.has, hT]
    rfl
set_option maxRecDepth 100000 in
set_option maxHeartbeats 1000000 in
theorem table_dw (h : RdAt w O c d mb D q) (ho : q.order ≤ 16) (hh : q.hist.length ≤ 1000000) (k : Nat) (hk : k ≤ 1000000) :
    Calls Try.prog 39 #[.pointer (some ⟨d, 0, none⟩), .int .i64 (k : Int)] w fun x w' => ∃ v1 v2, x = .returned (.tuple #[.agg #[v1, v2], .bool (q.at' k).isSome]) ∧ RowsC w O c v1 v2 (q.at' k) ∧ Below w.heap.size w w' := by
  obtain ⟨e0, e1, e2, e3, e4⟩ := five_at h.obj.1
  have es : ByteArray.size ⟨q.hist.toArray⟩ = q.hist.length := by simp [ByteArray.size]
  clear e1 e4
  have hd := h.obj.lt
  have H := Lib.hid h
  have g0 : ¬ (k : Int) < 0 := by omega
  by_cases h1 : k ≤ q.order
  · have g1 : ¬ (q.order : Int) < (k : Int) := by omega
    by_cases h2 : k ≤ q.hist.length
    · have g2 : ¬ (q.hist.length : Int) < (k : Int) := by omega
      obtain ⟨A1, p1, A2, p2, hl, hr⟩ := h.look hh k h2
      have hat : q.at' k = q.T (lastK q.hist k) := by unfold Rd.at'; rw [if_pos ⟨h1, h2⟩]
      rw [hat]
      have HR := Lib.hid hr
      have hl1 := fun o1 o2 => hl (((w.alloc o1).alloc o2).drew) (((Step.refl [] w O).alloc o1).alloc o2).drew
      have hl2 := fun o1 => hl ((w.alloc o1).drew) (((Step.refl [] w O).alloc o1)).drew
      obtain ⟨w1, w2⟩ := wr_in (x := (q.hist.length : Int) - (k : Int)) (by omega) (by omega)
      have g3 : 0 ≤ (q.hist.length : Int) - (k : Int) := by omega
      have g4 : ((q.hist.length : Int) - (k : Int)).toNat = q.hist.length - k := by omega
      have g5 : (q.hist.length : Int) - (k : Int) ≤ (q.hist.length : Int) := by omega
      have g6 : q.hist.length - k ≤ q.hist.length := by omega
      clear h hl hr
      go_enter Try.func39, Try.ntmps39
      go_wp2_with fail
      go_region
      all_goals
        go_wp2_with fail
        (try simp only [Exit.inBlock, Exit.then])
        refine bodyPost_ret (v := .tuple #[.agg #[.slice A1 ((q.T (lastK q.hist k)).getD []).length p1, .slice A2 ((q.T (lastK q.hist k)).getD []).length p2], .bool (q.T (lastK q.hist k)).isSome]) (by rw [results_cell_tmp rfl]; go_simp) rfl ?_
        exact ⟨_, _, rfl, HR.out, by (repeat' (first | exact Below.refl _ _ | refine Below.drew ?_ | refine Below.setCell ?_ (by simp) _ | refine Below.alloc ?_ (by simp <;> omega) _))⟩
    · have g2 : (q.hist.length : Int) < (k : Int) := by omega
      have hat : q.at' k = none := by unfold Rd.at'; rw [if_neg (fun e => h2 e.2)]
      rw [hat]
      have HR := Lib.hid (rows_none w O c)
      clear h hat
      go_enter Try.func39, Try.ntmps39
      go_wp2_with fail
      (try simp only [Exit.inBlock, Exit.then])
      refine bodyPost_ret (v := .tuple #[.agg #[.slice none 0 0, .slice none 0 0], .bool false]) (by rw [results_cell_tmp rfl]; go_simp) rfl ?_
      exact ⟨_, _, rfl, HR.out, by (repeat' (first | exact Below.refl _ _ | refine Below.drew ?_ | refine Below.setCell ?_ (by simp) _ | refine Below.alloc ?_ (by simp <;> omega) _))⟩
  · have g1 : (q.order : Int) < (k : Int) := by omega
    have hat : q.at' k = none := by unfold Rd.at'; rw [if_neg (fun e => h1 e.1)]
    rw [hat]
    have HR := Lib.hid (rows_none w O c)
    clear h hat
    go_enter Try.func39, Try.ntmps39
    go_wp2_with fail
    (try simp only [Exit.inBlock, Exit.then])
    refine bodyPost_ret (v := .tuple #[.agg #[.slice none 0 0, .slice none 0 0], .bool false]) (by rw [results_cell_tmp rfl]; go_simp) rfl ?_
    exact ⟨_, _, rfl, HR.out, by (repeat' (first | exact Below.refl _ _ | refine Below.drew ?_ | refine Below.setCell ?_ (by simp) _ | refine Below.alloc ?_ (by simp <;> omega) _))⟩
theorem table_neg (h : RdAt w O c d mb D q) (k : Int) (hk : k < 0) :
    Calls Try.prog 39 #[.pointer (some ⟨d, 0, none⟩), .int .i64 k] w fun x w' => ∃ v1 v2, x = .returned (.tuple #[.agg #[v1, v2], .bool false]) ∧ RowsC w O c v1 v2 none ∧ Below w.heap.size w w' := by
  have HR := Lib.hid (rows_none w O c)
  clear h
  go_enter Try.func39, Try.ntmps39
  go_wp2_with fail
  (try simp only [Exit.inBlock, Exit.then])
  refine bodyPost_ret (v := .tuple #[.agg #[.slice none 0 0, .slice none 0 0], .bool false]) (by rw [results_cell_tmp rfl]; go_simp) rfl ?_
  exact ⟨_, _, rfl, HR.out, by (repeat' (first | exact Below.refl _ _ | refine Below.drew ?_ | refine Below.setCell ?_ (by simp) _ | refine Below.alloc ?_ (by simp <;> omega) _))⟩
end
end Go.Proofs.Yteacmcckhjabmaa.Rx
end
section
set_option linter.unusedVariables false
set_option linter.unusedSimpArgs false
namespace Go.Proofs.Yteacmcckhjabmaa.Rx
open Go.RowKit Go.Maps
open Fq
open Rc
open Cx (Tl TOk)
namespace Rd
def longN (q : Rd) : Nat → Int
  | 0 => -1
  | j + 1 => if (q.at' j).isSome = true then (j : Int) else q.longN j
def long (q : Rd) : Int := q.longN (q.order + 1)
end Rd
section
variable {cs : List Nat} {w w' : World} {O O' : Paint} {c d mb : Nat} {D : Dv} {q : Rd} {v1 v2 : Value} {t : Option Tl}
theorem RowsC.shape (h : RowsC w O c v1 v2 t) : ∃ A p A2 p2, v1 = .slice A (t.getD []).length p ∧ v2 = .slice A2 (t.getD []).length p2 := RefT.shape h.ref.ref
set_option maxRecDepth 100000 in
set_option maxHeartbeats 1000000 in
theorem longest_dw (h : RdAt w O c d mb D q) (ho : q.order ≤ 16) (hh : q.hist.length ≤ 1000000) :
    Calls Try.prog 38 #[.pointer (some ⟨d, 0, none⟩)] w fun x w' => x = .returned (.int .i64 q.long) ∧ Below w.heap.size w w' := by
  obtain ⟨e0, e1, e2, e3, e4⟩ := five_at h.obj.1
  have H := Lib.hid h
  have HL := Lib.hid (show q.long = q.longN (q.order + 1) from rfl)
  clear e1 e2 e3 e4
  go_enter Try.func38, Try.ntmps38
  go_wp2_with fail
  go_loopw [3] (fun i wr => ∃ j : Nat, j ≤ q.order + 1 ∧ i = .int .i64 ((j : Int) - 1) ∧ q.long = q.longN j ∧ Below w.heap.size w wr) (fun i _ => (intOf i + 1).toNat)
  case atStart => exact ⟨q.order + 1, Nat.le_refl _, by congr 1; omega, HL.out, Below.refl _ _⟩
  case round =>
    obtain ⟨j, hj, rfl, hl, hb⟩ := hrel
    have HB := Lib.hid hb
    cases j with
    | zero =>
      have g0 : ¬ 0 ≤ ((0 : Nat) : Int) - 1 := by omega
      have HN := Lib.hid hl
      clear hb hl
      go_wp2_with fail
      go_ret
      exact ⟨by rw [HN.out]; rfl, HB.out⟩
    | succ j =>
      have e5 : ((j + 1 : Nat) : Int) - 1 = (j : Int) := by omega
      rw [e5]
      have g0 : 0 ≤ (j : Int) := by omega
      have HT := Lib.hid (table_dw (H.out.step (Step.of_below_same hb O) (by simp)) ho hh j (by omega))
      obtain ⟨w1, w2⟩ := wr_in (x := (j : Int) - 1) (by omega) (by omega)
      have HN := Lib.hid (show q.long = if (q.at' j).isSome = true then (j : Int) else q.longN j from hl)
      clear hb hl e5
      cases hs : (q.at' j).isSome with
      | true =>
        rw [hs] at HT HN
        clear hs
        go_wp2_with fail
        refine HT.out.mono ?_
        rintro x w3 ⟨v1, v2, rfl, hr, hb3⟩
        obtain ⟨A1, p1, A2, p2, rfl, rfl⟩ := hr.shape
        have HB3 := Lib.hid (HB.out.trans (hb3.mono HB.out.size))
        clear hb3 hr
        go_wp2_with fail
        go_ret
        exact ⟨by rw [HN.out]; rfl, bel_alloc _ HB3.out⟩
      | false =>
        rw [hs] at HT HN
        clear hs
        go_wp2_with fail
        refine HT.out.mono ?_
        rintro x w3 ⟨v1, v2, rfl, hr, hb3⟩
        obtain ⟨A1, p1, A2, p2, rfl, rfl⟩ := hr.shape
        have HB3 := Lib.hid (HB.out.trans (hb3.mono HB.out.size))
        clear hb3 hr
        go_wp2_with fail
        go_roundw
        case rel => exact ⟨j, by omega, rfl, by rw [HN.out]; rfl, bel_alloc _ HB3.out⟩
        case measure => simp [intOf]
end
end Go.Proofs.Yteacmcckhjabmaa.Rx
end
