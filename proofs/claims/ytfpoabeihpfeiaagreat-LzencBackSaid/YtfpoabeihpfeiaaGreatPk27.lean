/-
  A law for a region that draws its order: its first n operations only read, and all later ones wait for all of them. Then these n are walked in the text's order, and what is left goes on from there ('wpAny').
  A law for a region that draws its order and ends in stores: all operations from the n-th on wait for the first n. The first n are walked with a condition S on the world, which all of them keep (so that loads may be taken first); what is left goes on from there, and S need not hold behind it.
-/
import Derived.StillTail
import Derived.StillTactics
import Derived.OrdersHeld
import Derived.Deep.RegionHeld
set_option maxRecDepth 100000
set_option maxHeartbeats 16000000
set_option linter.unusedVariables false
set_option linter.unusedSimpArgs false
section
namespace Go.Proofs.YtfpoabeihpfeiaaGreat.Tail
open Go
variable {P : Program} {ops : Array Oper} {md : Region.Mode} {w : World}
def laterB (md : Region.Mode) (ops : Array Oper) (n : Nat) : Bool :=
 (List.range ops.size).all fun t => decide (t <= n) || (List.range t).any fun u => decide (n <= u) && Region.waitsFor md ops t u
def headB (md : Region.Mode) (ops : Array Oper) : Nat -> Nat -> Array Bool -> Bool
 | 0, _, _ => true
 | f + 1, k, s => (Region.ready md ops s).contains k && Region.free md ops s k && headB md ops f (k + 1) (s.setIfInBounds k true)
def marked : Nat -> Nat -> Array Bool -> Array Bool
 | 0, _, s => s
 | f + 1, k, s => marked f (k + 1) (s.setIfInBounds k true)
def tailB (ops : Array Oper) (n : Nat) : Bool :=
 Region.noSelect ops && decide (n < ops.size) && Region.sinkB .any ops n && laterB .any ops n && headB .any ops n 0 (Array.replicate ops.size false)
theorem not_ready {s : Array Bool} {t u : Nat} (h : Region.waitsFor md ops t u = true) (hu : s.getD u true = false) : t ∉ Region.ready md ops s := fun hr => by
 obtain ⟨_, ot, hot, hall⟩ := mem_ready.1 hr
 obtain ⟨o, ho, e, he, hb, hon⟩ := Region.waitsFor_spec h
 cases Option.some.inj (ho.symm.trans hot)
 have h2 := hall e he hb
 rw [hon, getD_both hu] at h2
 cases h2
theorem gate {n : Nat} {s : Array Bool} (hs : Region.sinkB md ops n = true) (hn : n < ops.size) (inv : HeadInv md ops n s) : ∀ (d i : Nat), n <= i + d -> i < n -> s.getD i true = false -> n ∉ Region.ready md ops s := by
 intro d
 induction d with
 | zero => intro i h1 h2; omega
 | succ d ih =>
  intro i h1 h2 hun
  obtain ⟨j, hj, hw⟩ := List.any_eq_true.1 (List.all_eq_true.1 hs i (List.mem_range.2 h2))
  simp only [Bool.and_eq_true, decide_eq_true_eq] at hw
  have hjn := List.mem_range.1 hj
  rcases Nat.lt_or_ge j n with hlt | hge
  · refine ih j (by omega) hlt (getD_in (by rw [inv.size]; omega) ?_)
    cases hl : s.getD j false with
    | false => rfl
    | true =>
     obtain ⟨oj, hoj, e, he, hb, hon⟩ := Region.waitsFor_spec hw.2
     have h3 := inv.closed j oj hoj hl e he hb
     rw [hon, getD_both hun] at h3
     cases h3
  · have hjn : j = n := by omega
    subst hjn
    exact not_ready hw.2 hun
theorem only_head {n : Nat} {s : Array Bool} (hs : Region.sinkB md ops n = true) (hl : laterB md ops n = true) (hn : n < ops.size) (inv : HeadInv md ops n s) {i : Nat} (hi : i < n) (hun : s.getD i true = false) : ∀ t ∈ Region.ready md ops s, t < n := by
 intro t ht
 rcases Nat.lt_or_ge t n with h | h
 · exact h
 · exfalso
   rcases Nat.eq_or_lt_of_le h with rfl | hgt
   · exact gate hs hn inv n i (by omega) hi hun ht
   · have hts : t < ops.size := by
      obtain ⟨_, ot, hot, _⟩ := mem_ready.1 ht
      exact (Array.getElem?_eq_some_iff.1 hot).1
     have h1 := List.all_eq_true.1 hl t (List.mem_range.2 hts)
     simp only [Bool.or_eq_true, decide_eq_true_eq] at h1
     rcases h1 with h1 | h1
     · omega
     · obtain ⟨u, hu, hw⟩ := List.any_eq_true.1 h1
       simp only [Bool.and_eq_true, decide_eq_true_eq] at hw
       have := List.mem_range.1 hu
       exact not_ready hw.2 (inv.tail u hw.1 (by omega)) ht
end Go.Proofs.YtfpoabeihpfeiaaGreat.Tail
end
section
namespace Go.Proofs.YtfpoabeihpfeiaaGreat.Tail
open Go
variable {P : Program} {ops : Array Oper} {md : Region.Mode} {Q : Exit -> Act -> World -> Prop} {S : World -> Prop} {n g : Nat} {Z : Array Bool}
def wpHead (P : Program) (md : Region.Mode) (ops : Array Oper) (Q : Exit -> Act -> World -> Prop) (n : Nat) (S : World -> Prop) (L : Array Bool -> Act -> World -> Prop) : Nat -> Array Bool -> Act -> World -> Prop
 | 0, s, a, w => L s a w
 | f + 1, s, a, w => Region.ready md ops s ≠ [] /\ ∀ i ∈ Region.ready md ops s, i < n /\ wpOp P ops Q i (fun a' w' => S w' /\ wpHead P md ops Q n S L f (s.setIfInBounds i true) a' w') a w
def Left (P : Program) (md : Region.Mode) (ops : Array Oper) (Q : Exit -> Act -> World -> Prop) (g : Nat) (Z : Array Bool) (s : Array Bool) (a : Act) (w : World) : Prop := s = Z /\ wpAny P md ops Q g Z a w
theorem wpAny_of_headH : ∀ (f : Nat) (s : Array Bool) (a : Act) (w : World), wpHead P md ops Q n S (Left P md ops Q g Z) f s a w -> wpAny P md ops Q (f + g) s a w
 | 0, s, a, w, h => by obtain ⟨h1, h2⟩ := h; rw [Nat.zero_add, h1]; exact h2
 | f + 1, s, a, w, h => by
  rw [show f + 1 + g = (f + g) + 1 by omega]
  exact ⟨fun h0 => absurd h0 h.1, fun i hi => wpOp_mono (fun a' w' h' => wpAny_of_headH f _ a' w' h'.2) (h.2 i hi).2⟩
structure HeadOk (md : Region.Mode) (ops : Array Oper) (n : Nat) (Z : Array Bool) : Prop where
 sel : Region.noSelect ops = true
 lt : n < ops.size
 sink : Region.sinkB md ops n = true
 later : laterB md ops n = true
 done : ((Region.ready md ops Z).all fun t => decide (n <= t)) = true
def headInvB (md : Region.Mode) (ops : Array Oper) (n : Nat) (s : Array Bool) : Bool :=
 decide (s.size = ops.size) && ((List.range ops.size).all fun j => match ops[j]? with
  | some oj => !(s.getD j false) || oj.after.all fun e => !(Region.binds md e) || s.getD e.on false
  | none => true) && ((List.range ops.size).all fun t => decide (t < n) || !(s.getD t true))
theorem headInv_of {s : Array Bool} (h : headInvB md ops n s = true) : HeadInv md ops n s := by
 unfold headInvB at h
 simp only [Bool.and_eq_true, decide_eq_true_eq] at h
 obtain ⟨⟨h1, h2⟩, h3⟩ := h
 refine ⟨h1, fun j oj hj hl e he hb => ?_, fun t h4 h5 => ?_⟩
 · have hjs : j < ops.size := (Array.getElem?_eq_some_iff.1 hj).1
   have := List.all_eq_true.1 h2 j (List.mem_range.2 hjs)
   simp only [hj, hl, Bool.not_true, Bool.false_or] at this
   have := Array.all_eq_true'.1 this e he
   simp only [hb, Bool.not_true, Bool.false_or] at this
   exact this
 · have := List.all_eq_true.1 h3 t (List.mem_range.2 h5)
   simp only [Bool.or_eq_true, decide_eq_true_eq, Bool.not_eq_true'] at this
   rcases this with h | h
   · omega
   · exact h
theorem head_first (ok : HeadOk md ops n Z) {i : Nat} {oi : Oper} {v : Value} (hi : ops[i]? = some oi) (hin : i < n)
  (hQ : ∀ c a w, Q (.panic c) (a.put oi.dst v) w -> Q (.panic c) a w) :
  ∀ (f : Nat) (s : Array Bool) (a : Act) (w : World), HeadInv md ops n s ->
   (∀ j oj, ops[j]? = some oj -> j ≠ i -> s.getD j true = false -> (∀ e ∈ oj.after, Region.binds md e = true -> e.on ≠ i) -> oi.apart ops oj = true) ->
   i ∈ Region.ready md ops s -> YieldsIf P ops S oi v a -> S w ->
   wpHead P md ops Q n S (Left P md ops Q g Z) f (s.setIfInBounds i true) (a.put oi.dst v) w -> wpHead P md ops Q n S (Left P md ops Q g Z) (f + 1) s a w := by
 have hsel := Region.noSelect_spec ok.sel
 intro f
 induction f with
 | zero =>
  intro s a w inv _ hr hy hS H
  have hun := (mem_ready.1 hr).1
  refine ⟨List.ne_nil_of_mem hr, fun j hj => ?_⟩
  have hjn := only_head ok.sink ok.later ok.lt inv hin hun j hj
  refine ⟨hjn, ?_⟩
  by_cases hji : j = i
  · subst hji; exact hy.wpOp hi hS ⟨hS, H⟩
  · have h1 := ready_mono hj hji
    rw [H.1] at h1
    have := List.all_eq_true.1 ok.done j h1
    simp only [decide_eq_true_eq] at this
    omega
 | succ f ih =>
  intro s a w inv hfree hr hy hS H
  have hun := (mem_ready.1 hr).1
  refine ⟨List.ne_nil_of_mem hr, fun j hj => ?_⟩
  have hjn := only_head ok.sink ok.later ok.lt inv hin hun j hj
  refine ⟨hjn, ?_⟩
  by_cases hji : j = i
  · subst hji; exact hy.wpOp hi hS ⟨hS, H⟩
  · have h1 := (H.2 j (ready_mono hj hji)).2
    obtain ⟨hjun, oj, hoj, hall⟩ := mem_ready.1 hj
    have hnot : ∀ e ∈ oj.after, Region.binds md e = true -> e.on ≠ i := fun e he hb heq => by
     have h1 := hall e he hb
     rw [heq, getD_both hun] at h1
     cases h1
    have h2 := wpOp_putIf hoj (hfree j oj hoj hji hjun hnot) (fun cs b => hsel i oi cs b hi) (fun cs b => hsel j oj cs b hoj) hQ hy h1
    have hfree' : ∀ k ok, ops[k]? = some ok -> k ≠ i -> (s.setIfInBounds j true).getD k true = false ->
      (∀ e ∈ ok.after, Region.binds md e = true -> e.on ≠ i) -> oi.apart ops ok = true := fun k ok hk hki hun hno => by
     refine hfree k ok hk hki ?_ hno
     by_cases hjk : j = k
     · subst hjk; exact hjun
     · rw [getD_set_ne true hjk] at hun; exact hun
    refine wpOp_mono (fun a' w' h3 => ⟨h3.2.1, ih (s.setIfInBounds j true) a' w' (inv.set hj hjn) hfree' (ready_mono hr (Ne.symm hji)) h3.1 h3.2.1 ?_⟩) h2
    rw [Array.setIfInBounds_comm _ _ hji]
    exact h3.2.2
theorem head_take (ok : HeadOk md ops n Z) {i : Nat} {oi : Oper} {v : Value} {f : Nat} {s : Array Bool} {a : Act} {w : World} (hi : ops[i]? = some oi) (hin : decide (i < n) = true) (hinv : headInvB md ops n s = true)
  (hf : Region.free md ops s i = true) (hr : (Region.ready md ops s).contains i = true) (hQ : ∀ c a w, Q (.panic c) (a.put oi.dst v) w -> Q (.panic c) a w) (hy : YieldsIf P ops S oi v a) (hS : S w)
  (h : wpHead P md ops Q n S (Left P md ops Q g Z) f (s.setIfInBounds i true) (a.put oi.dst v) w) : wpHead P md ops Q n S (Left P md ops Q g Z) (f + 1) s a w :=
 head_first ok hi (of_decide_eq_true hin) hQ f s a w (headInv_of hinv) (Region.free_spec hi hf) (by simpa using hr) hy hS h
theorem tk (ok : HeadOk md ops n Z) {i : Nat} {oi : Oper} {v : Value} {f : Nat} {s : Array Bool} {a : Act} {w : World} (hi : ops[i]? = some oi) (hb : (decide (i < n) && (headInvB md ops n s && (Region.free md ops s i && (Region.ready md ops s).contains i))) = true)
  (hQ : ∀ c a w, Q (.panic c) (a.put oi.dst v) w -> Q (.panic c) a w) (hy : YieldsIf P ops S oi v a) (hS : S w)
  (h : wpHead P md ops Q n S (Left P md ops Q g Z) f (s.setIfInBounds i true) (a.put oi.dst v) w) : wpHead P md ops Q n S (Left P md ops Q g Z) (f + 1) s a w := by
 simp only [Bool.and_eq_true] at hb
 exact head_take ok hi hb.1 hb.2.1 hb.2.2.1 hb.2.2.2 hQ hy hS h
def AllHead (P : Program) (md : Region.Mode) (ops : Array Oper) (Q : Exit -> Act -> World -> Prop) (n : Nat) (S : World -> Prop) (L : Array Bool -> Act -> World -> Prop) (f : Nat) (s : Array Bool) (a : Act) (w : World) (rs : List Nat) : Prop :=
 ∀ i ∈ rs, wpOp P ops Q i (fun a' w' => S w' /\ wpHead P md ops Q n S L f (s.setIfInBounds i true) a' w') a w
theorem AllHead.nil {L : Array Bool -> Act -> World -> Prop} {f : Nat} {s : Array Bool} {a : Act} {w : World} : AllHead P md ops Q n S L f s a w [] := fun _ h => by cases h
theorem AllHead.cons {L : Array Bool -> Act -> World -> Prop} {f : Nat} {s : Array Bool} {a : Act} {w : World} {i : Nat} {o : Oper} {rs : List Nat} (ho : ops[i]? = some o)
  (h : ∀ K' : Act -> World -> Prop, Shut (∀ a w, S w -> (S w -> wpHead P md ops Q n S L f (s.setIfInBounds i true) a w) -> K' a w) -> if Region.wanted o (yielded ops a.tmps) = true then Oper.wp P o a w K' Q else K' (a.put o.dst undef) w)
  (hs : AllHead P md ops Q n S L f s a w rs) : AllHead P md ops Q n S L f s a w (i :: rs) := fun j hj => by
 rcases List.mem_cons.1 hj with rfl | hj
 · exact wpOp_step ho (fun K' hK => h K' (fun a w hS hW => hK a w ⟨hS, hW hS⟩))
 · exact hs j hj
theorem head_ready {L : Array Bool -> Act -> World -> Prop} {rs : List Nat} {f : Nat} {s : Array Bool} {a : Act} {w : World} (hr : Region.ready md ops s = rs) (hne : rs ≠ []) (hn : (rs.all fun i => decide (i < n)) = true)
  (h : AllHead P md ops Q n S L f s a w rs) : wpHead P md ops Q n S L (f + 1) s a w :=
 ⟨by rw [hr]; exact hne, fun i hi => by
  rw [hr] at hi
  exact ⟨of_decide_eq_true (List.all_eq_true.1 hn i hi), h i hi⟩⟩
theorem head_done {s : Array Bool} {a : Act} {w : World} (hz : s = Z) (h : wpAny P md ops Q g Z a w) : wpHead P md ops Q n S (Left P md ops Q g Z) 0 s a w := ⟨hz, h⟩
theorem region_head {id : Nat} {a : Act} {w : World} {l : List Oper} (S : World -> Prop) (n g : Nat) (Z : Array Bool) (hm : P.follows .mixedOrders = true) (ok : HeadOk .any l.toArray n Z) (hg : l.toArray.size = n + g) (hS : S w.drew)
  (h : HeadOk .any l.toArray n Z -> S w.drew -> wpHead P .any l.toArray Q n S (Left P .any l.toArray Q g Z) n (Array.replicate l.toArray.size false) a w.drew) : (Code.region id l.toArray true).wp P Q a w := by
 refine wp_region_any hm ?_
 have h1 := wpAny_of_headH _ _ _ _ (h ok hS)
 rw [<- hg] at h1
 exact h1
def Lst (_ : List Nat) (G : Prop) : Prop := G
theorem Lst.mk (L : List Nat) {G : Prop} (h : Lst L G) : G := h
theorem Lst.nil {G : Prop} (h : G) : Lst [] G := h
theorem Lst.takeT (ok : HeadOk md ops n Z) {i : Nat} {L : List Nat} {oi : Oper} {v : Value} {f : Nat} {s : Array Bool} {a : Act} {w : World} (hi : ops[i]? = some oi) (hy : YieldsIf P ops S oi v a)
  (h : Lst L (wpHead P md ops Q n S (Left P md ops Q g Z) f (s.setIfInBounds i true) (a.put oi.dst v) w)) (hb : (decide (i < n) && (headInvB md ops n s && (Region.free md ops s i && (Region.ready md ops s).contains i))) = true := by kernel_rfl)
  (hQ : ∀ c a w, Q (.panic c) (a.put oi.dst v) w -> Q (.panic c) a w := by intro _ _ _ h; exact h) (hS : S w := by assumption) : Lst (i :: L) (wpHead P md ops Q n S (Left P md ops Q g Z) (f + 1) s a w) := tk ok hi hb hQ hy hS h
theorem Lst.takeH {i : Nat} {L : List Nat} {oi : Oper} {v : Value} {f : Nat} {s : Array Bool} {a : Act} {w : World} (hi : ops[i]? = some oi) (hy : YieldsIf P ops S oi v a)
  (h : Lst L (wpAnyH P md ops Q S f (s.setIfInBounds i true) (a.put oi.dst v) w)) (hb : (Region.noSelect ops && (Region.free md ops s i && (Region.ready md ops s).contains i)) = true := by kernel_rfl)
  (hQ : ∀ c a w, Q (.panic c) (a.put oi.dst v) w -> Q (.panic c) a w := by intro _ _ _ h; exact h) (hS : S w := by assumption) : Lst (i :: L) (wpAnyH P md ops Q S (f + 1) s a w) := by
 simp only [Bool.and_eq_true] at hb
 exact wpAnyH_take hi hb.1 hb.2.1 hb.2.2 hQ hy hS h
end Go.Proofs.YtfpoabeihpfeiaaGreat.Tail
end
