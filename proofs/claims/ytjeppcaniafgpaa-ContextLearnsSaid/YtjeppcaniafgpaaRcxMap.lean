/-
  The reference of layer 18: the map of tables by their texts: what it is in memory, what it tells, how it is set, and gone through.
-/
import Derived.Test.YtjeppcaniafgpaaFreqRef
import Derived.Test.YtjeppcaniafgpaaCtxMath
import Derived.Maps.OwnSet
import Derived.Maps.RangeWalk
set_option linter.unusedVariables false
set_option linter.unusedSimpArgs false
namespace Go.Proofs.Ytjeppcaniafgpaa.Rx
open Go.RowKit Go.Maps
open Fq
open Cx (Tl TOk)
abbrev Dv := DataW Value
def tok (v : Value) : Option (Dv × List MemPlace) := some (.held v, [])
def wtV (v : Value) : Nat := match v with
  | .agg cs => (match cs.toList with
    | Value.slice _ n _ :: _ => 1 + n
    | _ => 0)
  | _ => 0
def wtD (d : Dv) : Nat := match d with
  | .held v => wtV v
  | _ => 0
def sumE (es : List (Lit × Dv)) : Nat := (es.map fun p => wtD p.2).sum
def entsD (D : Dv) : List (Lit × Dv) := match D with
  | .map es => es
  | _ => []
def sumD (D : Dv) : Nat := sumE (entsD D)
def sumL (left : Lit → Bool) (D : Dv) : Nat := sumE ((entsD D).filter fun p => left p.1)
theorem sum_insert (x : Lit × Dv) : ∀ l : List (Lit × Dv), sumE (DataW.insert x l) = wtD x.2 + sumE l
  | [] => by simp [DataW.insert, sumE]
  | y :: r => by
    have ih := sum_insert x r
    unfold DataW.insert
    split
    · simp [sumE]
    · simp only [sumE, List.map_cons, List.sum_cons] at ih ⊢
      omega
theorem sum_split {k : Lit} : ∀ es : List (Lit × Dv), es.Pairwise (fun p q => p.1 ≠ q.1) → sumE (es.filter fun p => !p.1.sameKey k) + (match es.find? (fun p => p.1.sameKey k) with
    | some p => wtD p.2
    | none => 0) = sumE es
  | [], _ => rfl
  | p :: es, h => by
    obtain ⟨h1, h2⟩ := List.pairwise_cons.1 h
    have ih := sum_split (k := k) es h2
    by_cases hp : p.1.sameKey k = true
    · have hk := WideAt.sameKey_eq hp
      have hall : ∀ q ∈ es, q.1.sameKey k = false := fun q hq => Maps.sameKey_ne (fun e => h1 q hq (by rw [hk, e]))
      have hf : es.filter (fun p => !p.1.sameKey k) = es := List.filter_eq_self.2 (fun q hq => by rw [hall q hq]; rfl)
      have e1 : List.find? (fun p => p.1.sameKey k) (p :: es) = some p := by simp [List.find?_cons, hp]
      rw [List.filter_cons_of_neg (by simp [hp]), e1, hf]
      simp only [sumE, List.map_cons, List.sum_cons]
      omega
    · have hp' : p.1.sameKey k = false := by simpa using hp
      have e1 : List.find? (fun p => p.1.sameKey k) (p :: es) = List.find? (fun p => p.1.sameKey k) es := by simp [List.find?_cons, hp']
      rw [List.filter_cons_of_pos (by simp [hp']), e1]
      simp only [sumE, List.map_cons, List.sum_cons] at ih ⊢
      omega
theorem find_has {es : List (Lit × Dv)} {k : Lit} (z : Dv) : (match es.find? (fun p => p.1.sameKey k) with
    | some p => wtD p.2
    | none => 0) = if Maps.has (.map es) k = true then wtD ((DataW.map es).atKey k z) else 0 := by
  rw [Maps.has_eq]
  cases hf : es.find? (fun p => p.1.sameKey k) with
  | none =>
    have : es.any (fun p => p.1.sameKey k) = false := by
      rw [List.any_eq_false]
      intro p hp
      exact List.find?_eq_none.1 hf p hp
    rw [this]
    rfl
  | some p =>
    have : es.any (fun p => p.1.sameKey k) = true := List.any_eq_true.2 ⟨p, List.mem_of_find?_eq_some hf, List.find?_some (p := fun (p : Lit × Dv) => p.1.sameKey k) hf⟩
    rw [this]
    simp [DataW.atKey, hf]
theorem sum_put {D : Dv} {k : Lit} {d : Dv} (h : Tidy D) (z : Dv) : sumD (D.put k d) + (if Maps.has D k = true then wtD (D.atKey k z) else 0) = sumD D + wtD d := by
  obtain ⟨es, rfl, hap⟩ := h
  have h1 := sum_split (k := k) es hap
  rw [find_has z] at h1
  show sumE (DataW.insert (k, d) (es.filter fun p => !p.1.sameKey k)) + _ = sumE es + _
  rw [sum_insert]
  exact (Nat.add_assoc _ _ _).trans ((congrArg (wtD d + ·) h1).trans (Nat.add_comm _ _))
/-- One entry is gone through. -/
theorem sum_strike {D : Dv} {k : Lit} {d : Dv} {left : Lit → Bool} (h : Tidy D) (hl : left k = true) (hh : Maps.has D k = true) (ha : ∀ z, D.atKey k z = d) : sumL (fun x => left x && !x.sameKey k) D + wtD d = sumL left D := by
  obtain ⟨es, rfl, hap⟩ := h
  have h1 := sum_split (k := k) (es.filter fun p => left p.1) (hap.filter _)
  have h2 : (es.filter fun p => left p.1).filter (fun p => !p.1.sameKey k) = es.filter fun p => left p.1 && !p.1.sameKey k := by
    rw [List.filter_filter]
    congr 1
    funext p
    exact Bool.and_comm _ _
  have h3 : (es.filter fun p => left p.1).find? (fun p => p.1.sameKey k) = es.find? (fun p => p.1.sameKey k) := by
    rw [List.find?_filter]
    congr 1
    funext p
    cases hs : p.1.sameKey k with
    | false => simp
    | true => rw [WideAt.sameKey_eq hs, hl]; rfl
  rw [h2, h3, find_has d, hh, if_pos rfl, ha] at h1
  exact h1
theorem sum_none {D : Dv} {left : Lit → Bool} (h : ∀ k, left k = false) : sumL left D = 0 := by
  unfold sumL
  rw [List.filter_eq_nil_iff.2 (fun p _ => by rw [h]; simp)]
  rfl
theorem sum_all {D : Dv} (h : Tidy D) (hk : ∀ p ∈ entsD D, WideAt.IsKeyLit p.1) : sumL (Maps.has D) D = sumD D := by
  obtain ⟨es, rfl, hap⟩ := h
  unfold sumL sumD entsD
  dsimp only
  rw [List.filter_eq_self.2 (fun p hp => by rw [Maps.has_eq]; exact List.any_eq_true.2 ⟨p, hp, WideAt.sameKey_self (hk p hp)⟩)]
theorem keyS : Keyed Try.prog 9 := string_keyed Try.underlying9
theorem key_of {s : ByteArray} (hs : s.size ≤ 1000000) : keyOf Try.prog 9 (.string s) = some (.string s.data.toList) := by
  unfold keyOf
  rw [Try.underlying9]
  simp [mapKey, Try.underlying9]
  unfold maxLen
  omega
/-- A table of the reference; its rows belong to c. -/
structure RefC (w : World) (O : Paint) (c : Nat) (v1 v2 : Value) (l : Tl) : Prop where
  ref : RefT w v1 v2 l
  c1 : ∀ k, v1.ownBlock = some k → O k = c
  c2 : ∀ k, v2.ownBlock = some k → O k = c
/-- Block b is a map of tables: for each text it tells T. -/
structure TmAt (w : World) (O : Paint) (c b N : Nat) (D : Dv) (T : List UInt8 → Option Tl) : Prop where
  own : w.ownsMap Try.prog 9 tok b N D
  col : O b = c
  has : ∀ t, Maps.has D (.string t) = (T t).isSome
  tells : ∀ t l, T t = some l → ∃ v1 v2, (∀ z, D.atKey (.string t) z = .held (.agg #[v1, v2])) ∧ RefC w O c v1 v2 l ∧ TOk l ∧ l ≠ []
section
variable {cs : List Nat} {w w' : World} {O O' : Paint} {c b N N' : Nat} {D : Dv} {T : List UInt8 → Option Tl} {v1 v2 : Value} {l : Tl}
theorem RefC.step (h : RefC w O c v1 v2 l) (hs : Step cs w O w' O') (hc : c ∉ cs) : RefC w' O' c v1 v2 l :=
  ⟨⟨ownsRow_frame h.ref.row1 hs.frame (fun k hk ho => hc (by rw [h.c1 k hk] at ho; exact ho)), ownsRow_frame h.ref.row2 hs.frame (fun k hk ho => hc (by rw [h.c2 k hk] at ho; exact ho))⟩,
    fun k hk => (hs.ext k (ownsRow_lt h.ref.row1 k hk)).trans (h.c1 k hk), fun k hk => (hs.ext k (ownsRow_lt h.ref.row2 k hk)).trans (h.c2 k hk)⟩
/-- Behind a write of the map alone. -/
theorem RefC.grown (h : RefC w O c v1 v2 l) {es : Array MapEntry} {clock : Nat} (hb : w.heap[b]? = some (.map es clock)) (hg : w.grownBy w' (some b)) : RefC w' O c v1 v2 l := by
  have key : ∀ (e : TypeId) (v : Value) (n : Nat) (xs : List Value), w.ownsRow 0 e 1 v n xs → w'.ownsRow 0 e 1 v n xs := by
    intro e v n xs ho
    refine ⟨ho.1, ?_⟩
    rcases ho.2 with h2 | ⟨g, cap, cur, rfl, h3, h4, h5⟩
    · exact .inl h2
    · refine .inr ⟨g, cap, cur, rfl, h3, (hg.block g (lt_of_heap h4) (fun e => ?_)).trans h4, h5⟩
      cases e
      rw [hb] at h4
      cases h4
  exact ⟨⟨key _ _ _ _ h.ref.row1, key _ _ _ _ h.ref.row2⟩, h.c1, h.c2⟩
theorem TmAt.lt (h : TmAt w O c b N D T) : b < w.heap.size := h.own.lt
theorem TmAt.step (h : TmAt w O c b N D T) (hs : Step cs w O w' O') (hc : c ∉ cs) : TmAt w' O' c b N D T := by
  have hl := h.lt
  obtain ⟨es, clock, hb, hF, g1, g2⟩ := h.own
  exact ⟨⟨es, clock, (hs.block hl (by rw [h.col]; exact hc)).trans hb, hF, g1, g2⟩, (hs.ext b hl).trans h.col, h.has, fun t l ht => by
    obtain ⟨v1, v2, k1, k2, k3⟩ := h.tells t l ht
    exact ⟨v1, v2, k1, k2.step hs hc, k3⟩⟩
theorem tm_made {w : World} {O : Paint} {c b : Nat} (h : w.heap[b]? = some (.map #[] 0)) (hc : O b = c) : TmAt w O c b 0 (.map []) (fun _ => none) :=
  ⟨⟨#[], 0, h, ⟨by simp, MapKept.stamped_empty 0, by simp⟩, Nat.le_refl _, rfl⟩, hc, fun _ => rfl, fun t l ht => by cases ht⟩
theorem zeroT (w : World) : (zeroValue 53).run Try.prog w = .ok (.agg #[.slice none 0 0, .slice none 0 0]) w := by kernel_rfl
theorem TmAt.look_yes (h : TmAt w O c b N D T) {s : ByteArray} (hs : s.size ≤ 1000000) (ht : T s.data.toList = some l) : ∃ v1 v2, (Instr.lookup 46 (.map (some b)) (.string s) true).run Try.prog w = .ok (.tuple #[.agg #[v1, v2], .bool true]) w ∧ RefC w O c v1 v2 l ∧ TOk l ∧ l ≠ [] := by
  obtain ⟨v1, v2, k1, k2, k3⟩ := h.tells _ l ht
  obtain ⟨v, ps, hrun, hv⟩ := h.own.look_ok keyS Try.underlying46 (zeroT w) (zd := .held (.agg #[.slice none 0 0, .slice none 0 0])) (zp := []) rfl (key_of hs)
  rw [k1] at hv
  have e : v = .agg #[v1, v2] := by
    unfold tok at hv
    simp at hv
    exact hv.1
  subst e
  refine ⟨v1, v2, ?_, k2, k3⟩
  rw [hrun, h.has, ht]
  rfl
theorem TmAt.look_no (h : TmAt w O c b N D T) {s : ByteArray} (hs : s.size ≤ 1000000) (ht : T s.data.toList = none) : (Instr.lookup 46 (.map (some b)) (.string s) true).run Try.prog w = .ok (.tuple #[.agg #[.slice none 0 0, .slice none 0 0], .bool false]) w := by
  obtain ⟨v, ps, hrun, hv⟩ := h.own.look_ok keyS Try.underlying46 (zeroT w) (zd := .held (.agg #[.slice none 0 0, .slice none 0 0])) (zp := []) rfl (key_of hs)
  have hn : Maps.has D (.string s.data.toList) = false := by rw [h.has, ht]; rfl
  rw [Maps.atKey_of_not_has hn] at hv
  have e : v = .agg #[.slice none 0 0, .slice none 0 0] := by
    unfold tok at hv
    simp at hv
    exact hv.1
  subst e
  rw [hrun, hn]
def setT (T : List UInt8 → Option Tl) (t : List UInt8) (l : Tl) : List UInt8 → Option Tl := fun x => if x = t then some l else T x
/-- A table's weight. -/
def wtT (x : Option Tl) : Nat := match x with
  | none => 0
  | some l => 1 + l.length
theorem RefT.weight (h : RefT w v1 v2 l) : wtV (.agg #[v1, v2]) = 1 + l.length := by
  rcases h.row1.2 with ⟨e1, e2⟩ | ⟨g, cap, cur, e1, _⟩
  · rw [e1]
    show 1 + 0 = _
    rw [e2]
  · rw [e1]
    rfl
theorem TmAt.set (h : TmAt w O c b N D T) (hN : N ≤ 100000000) {s : ByteArray} (hs : s.size ≤ 1000000) (hr : RefC w O c v1 v2 l) (hl : TOk l) (h0 : l ≠ []) :
    ∃ w' D', (Instr.mapUpdate 46 (.map (some b)) (.string s) (.agg #[v1, v2])).run Try.prog w = .ok () w' ∧ Step [c] w O w' O ∧ TmAt w' O c b (N + 1) D' (setT T s.data.toList l) ∧ sumD D' + wtT (T s.data.toList) = sumD D + (1 + l.length) := by
  obtain ⟨w', hrun, ho, hg⟩ := h.own.update keyS Try.underlying46 (by unfold maxLen; omega) (key_of hs) (val := .agg #[v1, v2]) (d := .held (.agg #[v1, v2])) (ps := []) rfl
  have hst : Step [c] w O w' O := (Step.refl [c] w O).grown hg (fun j hj => by cases hj; exact .inl (by simp [h.col]))
  have hk : WideAt.IsKeyLit (.string s.data.toList) := keyS.key (key_of hs)
  have hti : Tidy D := h.own.tidy keyS
  have hbm : ∃ es clock, w.heap[b]? = some (.map es clock) := by
    obtain ⟨es, clock, hb, _⟩ := h.own
    exact ⟨es, clock, hb⟩
  obtain ⟨es, clock, hb⟩ := hbm
  refine ⟨w', _, hrun, hst, ⟨ho, h.col, fun t => ?_, fun t m ht => ?_⟩, ?_⟩
  · unfold setT
    by_cases e : t = s.data.toList
    · subst e
      rw [Maps.has_put_same h.own.isMap hk, if_pos rfl]
      rfl
    · rw [Maps.has_put_other (by simpa using e), if_neg e]
      exact h.has t
  · unfold setT at ht
    by_cases e : t = s.data.toList
    · subst e
      rw [if_pos rfl] at ht
      cases ht
      exact ⟨v1, v2, fun z => Maps.atKey_put_same h.own.isMap hk _ z, hr.grown hb hg, hl, h0⟩
    · rw [if_neg e] at ht
      obtain ⟨u1, u2, k1, k2, k3⟩ := h.tells t m ht
      exact ⟨u1, u2, fun z => by rw [Maps.atKey_put_other (by simpa using e)]; exact k1 z, k2.grown hb hg, k3⟩
  · have h1 := sum_put (k := .string s.data.toList) (d := .held (.agg #[v1, v2])) hti (.held (.agg #[v1, v2]))
    have e1 : wtD (.held (.agg #[v1, v2])) = 1 + l.length := RefT.weight hr.ref
    have e2 : (if Maps.has D (.string s.data.toList) = true then wtD (D.atKey (.string s.data.toList) (.held (.agg #[v1, v2]))) else 0) = wtT (T s.data.toList) := by
      rw [h.has]
      cases hT : T s.data.toList with
      | none => rfl
      | some m =>
        obtain ⟨u1, u2, k1, k2, k3⟩ := h.tells _ m hT
        rw [k1]
        exact RefT.weight k2.ref
    rw [e1, e2] at h1
    exact h1
end
end Go.Proofs.Ytjeppcaniafgpaa.Rx
