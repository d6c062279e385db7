/-
  Contexts, mathematics: the program's contexts and the document's are the same: what is told of them, and what is learnt.
-/
import Derived.Test.YtjeppcaniafgpaaRcxSync
import Derived.Test.YtjeppcaniafgpaaCtxSpeaks
set_option linter.unusedVariables false
set_option linter.unusedSimpArgs false
namespace Go.Proofs.Ytjeppcaniafgpaa.Rx
open Fq
open Cx (Tl TOk Rw)
structure Cp (r : Rw) (q : Rd) : Prop where
  ok : r.Ok
  ex : ∃ nd, Nd r q.hist nd ∧ (∀ t, q.T t = (nd t).bind r.K) ∧ (r.pth.length ≤ r.hist.length → nd (lastK q.hist r.pth.length) = none)
  ne0 : ∀ i, r.K i ≠ some []
  u : r.used = q.sum
  order : r.order = q.order
  cells : r.cells = q.cells
  rs : r.rs = q.rs
theorem find_chain {f : Nat → Nat → Option Nat} {nd : List UInt8 → Option Nat} {h : List UInt8} {hist : List Nat} (hf : ∀ t i (y : UInt8), nd t = some i → f i y.toNat = nd (y :: t)) (hle : hist.length ≤ h.length)
    (hh : ∀ k (h1 : 1 ≤ k) (h2 : k ≤ hist.length), hist.getD (hist.length - k) 0 = (h[h.length - k]'(by omega)).toNat) :
    ∀ (n : Nat) (p : List Nat), 1 ≤ p.length → p.length + n = hist.length + 1 → (∀ k : Nat, k < p.length → nd (lastK h k) = p[k]?) →
      (∀ k : Nat, k < (Rw.findL f hist n p).length → nd (lastK h k) = (Rw.findL f hist n p)[k]?) ∧ ((Rw.findL f hist n p).length ≤ hist.length → nd (lastK h (Rw.findL f hist n p).length) = none)
  | 0, p, _, h2, hc => ⟨hc, fun e => by exfalso; have e2 : p.length ≤ hist.length := e; omega⟩
  | n + 1, p, h1, h2, hc => by
    have key : f (p.getD (p.length - 1) 0) (hist.getD (hist.length - p.length) 0) = nd (lastK h p.length) := by
      rw [hh p.length h1 (by omega), lastK_cons h h1 (by omega)]
      refine hf _ _ _ ?_
      rw [hc (p.length - 1) (by omega), List.getD_eq_getElem?_getD, List.getElem?_eq_getElem (by omega)]
      rfl
    unfold Rw.findL
    split
    · rename_i hn
      rw [key] at hn
      exact ⟨hc, fun _ => hn⟩
    · rename_i i hi
      rw [key] at hi
      refine find_chain hf hle hh n (p ++ [i]) (by simp) (by simp; omega) (fun k hk => ?_)
      by_cases e : k < p.length
      · rw [List.getElem?_append_left e]
        exact hc k e
      · have : k = p.length := by simp at hk; omega
        subst this
        rw [hi, List.getElem?_append_right (Nat.le_refl _)]
        simp
section
variable {r : Rw} {q : Rd} {nd : List UInt8 → Option Nat} {p m : Nat}
theorem hist_more {H : List Nat} {h : List UInt8} {s : Nat} (hs : s < 256) (hH : H = (lastK h H.length).map (·.toNat)) (hle : H.length ≤ h.length) : H ++ [s] = ((h ++ [UInt8.ofNat s]).drop (h.length - H.length)).map (·.toNat) := by
  rw [List.drop_append_of_le_length (by omega), List.map_append]
  have e : (UInt8.ofNat s).toNat = s := by simp; omega
  simp only [List.map_cons, List.map_nil, e]
  congr 1
theorem Syn.close (S : Syn r q nd p m) (hm : r.pth.length ≤ m) {s : Nat} (hs : s < 256) (ok : (r.write s).refind.Ok) (hc : r.cells = q.cells) (hr : r.rs = q.rs) : Cp (r.write s).refind (q.wr s) := by
  have hno := S.no hm
  have hle := S.nod.hle
  have hlen := S.len
  have hmin := S.nod.hlen
  have hmore := hist_more hs S.nod.hist hle
  have hW : (r.write s).hist = if r.order < r.hist.length + 1 then (r.hist ++ [s]).drop 1 else r.hist ++ [s] := rfl
  have hl' : (r.write s).hist.length = min r.order (q.hist.length + 1) := by
    rw [hW]
    split <;> simp <;> omega
  have hHist : (r.write s).hist = (lastK (q.hist ++ [UInt8.ofNat s]) (r.write s).hist.length).map (·.toNat) := by
    unfold lastK
    rw [hl', hW, hmore]
    by_cases e : r.order < r.hist.length + 1
    · rw [if_pos e, ← List.map_drop, List.drop_drop]
      congr 2
      simp
      omega
    · rw [if_neg e]
      congr 2
      simp
      omega
  have hN0 : Nd { (r.write s) with pth := [] } (q.hist ++ [UInt8.ofNat s]) nd := ⟨S.nod.inj, S.nod.suf, S.nod.f, S.nod.dom, S.nod.K, S.nod.all, hHist, by
    show (r.write s).hist.length = min r.order (q.hist ++ [UInt8.ofNat s]).length
    rw [hl']; simp, fun k hk => by cases hk⟩
  have hp0 : nd [] = r.pth[0]? := by
    have := S.nod.pth 0 (by omega)
    rwa [lastK_zero] at this
  obtain ⟨c1, c2⟩ := find_chain (f := r.f) (nd := nd) (h := q.hist ++ [UInt8.ofNat s]) (hist := (r.write s).hist) S.nod.f hN0.hle (fun k h1 h2 => hN0.histAt h1 h2) (r.write s).hist.length (r.pth.take 1) (by rw [List.length_take]; omega) (by rw [List.length_take]; omega) (fun k hk => by
    have : k = 0 := by rw [List.length_take] at hk; omega
    subst this
    rw [lastK_zero, hp0, List.getElem?_take]
    simp)
  refine ⟨ok, ⟨nd, ⟨S.nod.inj, S.nod.suf, S.nod.f, S.nod.dom, S.nod.K, S.nod.all, hHist, hN0.hlen, c1⟩, fun t => ?_, c2⟩, hno, ?_, S.order, hc, hr⟩
  · show q.T t = (nd t).bind r.K
    rw [S.T]
    cases ht : nd t with
    | none => rfl
    | some i =>
      obtain ⟨l, hl⟩ := S.nod.K t i ht
      show ne (r.K i) = r.K i
      rw [hl, ne_cons (fun e => hno i (by rw [hl, e]))]
  · show r.used = q.sum
    have := S.u
    omega
theorem Cp.learn1 (C : Cp r q) {s a : Nat} (hs : s < 256) (ha : a ≤ r.pth.length) (hr : r.used + r.needs s a ≤ r.cells) : Cp (r.learn1 s a) (q.learn1 s a) := by
  obtain ⟨nd, hN, hT, hmx⟩ := C.ex
  have hlen := C.ok.len
  have ok1 := Rw.learn1_ok C.ok hs ha hr
  obtain ⟨r1, r2⟩ := Rw.learn_room C.ok ha hr
  obtain ⟨nd', G, g1, g2, g3, _⟩ := hN.growN C.ok hmx C.ne0 (r.hist.length + 1 - r.pth.length) (by omega) r1
  obtain ⟨p1, p2, p3, p4, p5, p6⟩ := Rw.growN_parts r (r.hist.length + 1 - r.pth.length)
  have hroom : q.room a = r.hist.length + 1 - a := by
    unfold Rd.room
    rw [hN.hlen, C.order]
  unfold Rw.learn1 at ok1 ⊢
  unfold Rd.learn1
  rw [hroom]
  generalize r.growN (r.hist.length + 1 - r.pth.length) = g at *
  have hgl : g.pth.length = r.hist.length + 1 := by omega
  have S : Syn g q nd' r.pth.length a := ⟨G, fun t => by rw [g1, hT], g2, fun k i hk => by rw [g3 k i hk]; omega, by rw [p1, C.u]; have := C.u; omega, by rw [p5]; exact C.order, by rw [hgl, p2]⟩
  have S2 := S.steps s (r.hist.length + 1 - a) (by omega)
  rw [hgl] at ok1 ⊢
  obtain ⟨a1, a2, a3, a4, a5, a6⟩ := Rw.addN_parts g s a (r.hist.length + 1 - a)
  obtain ⟨b1, b2, b3, b4, b5⟩ := Rd.addN_parts q s a (r.hist.length + 1 - a)
  refine S2.close (by rw [a1]; omega) hs ok1 ?_ ?_
  · rw [a4, p4, b2]; exact C.cells
  · rw [a6, p6, b3]; exact C.rs
theorem Cp.forget (C : Cp r q) : Cp r.forget q.forget :=
  ⟨Rw.forget_ok C.ok, ⟨fun _ => none, ⟨(fun _ _ _ h => by cases h), (fun _ _ _ => rfl), (fun _ _ _ h => by cases h), (fun _ _ _ h => by cases h), (fun _ _ h => by cases h), (fun _ _ h => by cases h), rfl, by show 0 = min _ 0; simp, fun k hk => by cases hk⟩, fun _ => rfl, fun _ => rfl⟩, (fun i h => by cases h), rfl, C.order, C.cells, by show r.rs + 1 = q.rs + 1; rw [C.rs]⟩
theorem Nd.none_up (H : Nd r q.hist nd) {p : Nat} (hp : nd (lastK q.hist p) = none) : ∀ n, p + n ≤ q.hist.length → nd (lastK q.hist (p + n)) = none
  | 0, _ => hp
  | n + 1, h => by
    have h1 := Nd.none_up H hp n (by omega)
    rw [lastK_cons q.hist (by omega) h]
    exact H.suf _ _ h1
theorem Cp.at (C : Cp r q) (k : Nat) : q.at' k = (r.pth[k]?).bind r.K := by
  obtain ⟨nd, hN, hT, hmx⟩ := C.ex
  have hlen := C.ok.len
  have hmin := hN.hlen
  have ho := C.order
  unfold Rd.at'
  by_cases h : k ≤ q.order ∧ k ≤ q.hist.length
  · rw [if_pos h, hT]
    by_cases hk : k < r.pth.length
    · rw [hN.pth k hk]
    · have h2 := hmx (by omega)
      have h3 := hN.none_up h2 (k - r.pth.length) (by omega)
      rw [show r.pth.length + (k - r.pth.length) = k by omega] at h3
      rw [h3, List.getElem?_eq_none (by omega)]
      try rfl
  · rw [if_neg h, List.getElem?_eq_none (by omega)]
    try rfl
theorem Cp.isSome (C : Cp r q) (k : Nat) : (q.at' k).isSome = decide (k < r.pth.length) := by
  rw [C.at]
  by_cases hk : k < r.pth.length
  · obtain ⟨i, l, h1, h2⟩ := C.ok.at hk
    rw [h1, decide_eq_true hk]
    show (r.K i).isSome = true
    rw [h2]
    rfl
  · rw [List.getElem?_eq_none (by omega), decide_eq_false hk]
    rfl
theorem Cp.long (C : Cp r q) : q.long = (r.pth.length : Int) - 1 := by
  obtain ⟨nd, hN, _, _⟩ := C.ex
  have key : ∀ j : Nat, q.longN j = ((min r.pth.length j : Nat) : Int) - 1 := by
    intro j
    induction j with
    | zero => simp [Rd.longN]
    | succ j ih =>
      unfold Rd.longN
      rw [C.isSome, ih]
      by_cases h : j < r.pth.length
      · rw [decide_eq_true h, if_pos rfl]; omega
      · rw [decide_eq_false h, if_neg (by simp)]; omega
  have hlen := C.ok.len
  have hmin := hN.hlen
  have ho := C.order
  unfold Rd.long
  rw [key]
  omega
theorem Cp.needs (C : Cp r q) (s a : Nat) (ha : a ≤ r.pth.length) : q.needs s a (q.room a) = r.needs s a := by
  obtain ⟨nd, hN, _, _⟩ := C.ex
  have key : ∀ n, q.needs s a n = r.lacks s a (min n (r.pth.length - a)) + 2 * (n - (r.pth.length - a)) := by
    intro n
    induction n with
    | zero => simp [Rd.needs, Rw.lacks]
    | succ n ih =>
      rw [Rd.needs, ih]
      unfold Rd.need1
      rw [C.at]
      by_cases h : a + n < r.pth.length
      · obtain ⟨i, l, h1, h2⟩ := C.ok.at h
        rw [h1]
        show _ + (match r.K i with
          | none => 2
          | some l => if hasB l s = true then 0 else 1) = _
        rw [h2, show min n (r.pth.length - a) = n by omega, show min (n + 1) (r.pth.length - a) = n + 1 by omega, show n - (r.pth.length - a) = 0 by omega, show n + 1 - (r.pth.length - a) = 0 by omega]
        rw [Rw.lacks, Rw.hasK_at h1 h2]
        rfl
      · rw [List.getElem?_eq_none (by omega)]
        show _ + 2 = _
        rw [show min n (r.pth.length - a) = r.pth.length - a by omega, show min (n + 1) (r.pth.length - a) = r.pth.length - a by omega]
        omega
  have hlen := C.ok.len
  have hroom : q.room a = r.hist.length + 1 - a := by
    unfold Rd.room
    rw [hN.hlen, C.order]
  rw [key, hroom]
  unfold Rw.needs
  rw [show min (r.hist.length + 1 - a) (r.pth.length - a) = r.pth.length - a by omega]
  omega
theorem Cp.new (o n : Int) : Cp (Cx.Rw.new o n) (rdNew o n) :=
  ⟨Cx.Rw.new_ok o n, ⟨fun _ => none, ⟨(fun _ _ _ h => by cases h), (fun _ _ _ => rfl), (fun _ _ _ h => by cases h), (fun _ _ _ h => by cases h), (fun _ _ h => by cases h), (fun _ _ h => by cases h), rfl, by show 0 = min _ 0; simp, fun k hk => by cases hk⟩, fun _ => rfl, fun _ => rfl⟩, (fun i h => by cases h), rfl, rfl, rfl, rfl⟩
theorem Cp.learn (C : Cp r q) {s : Nat} (hs : s < 256) {f : Int} (hf : f ≤ (r.pth.length : Int) - 1) : Cp (r.learn s f) (q.learn s f) := by
  have hst : r.start f = (max f 0).toNat := by
    unfold Rw.start
    omega
  have hle := Rw.start_le r f
  have hn := C.needs s (r.start f) hle
  unfold Rw.learn Rd.learn
  rw [← hst]
  have hfu : q.full s (r.start f) = r.full s (r.start f) := by
    unfold Rd.full Rw.full
    rw [hn, C.cells, C.u]
  rw [hfu]
  by_cases h : r.full s (r.start f) = true
  · rw [if_pos h, if_pos h]
    exact C.forget.learn1 hs (Nat.zero_le _) (by have := C.ok.cells.1; show 0 + (2 * (0 + 1 - 0) + 0) ≤ r.cells; omega)
  · rw [if_neg h, if_neg h]
    refine C.learn1 hs hle ?_
    unfold Rw.full at h
    rw [decide_eq_true_iff] at h
    omega
end
end Go.Proofs.Ytjeppcaniafgpaa.Rx
