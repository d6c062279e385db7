/-
  Layer 11's statements: what Coded tells of packets (mathematics): those that fit, as long as the text is short.
  Layer 11's statements: the contract of Coded: the document's bytes of those packets that fit.
-/
import Derived.Test.YtfpoabeihpfeiaaGreatPk36
import Derived.Test.YtfpoabeihpfeiaaGreatPk46

set_option maxRecDepth 100000
set_option maxHeartbeats 16000000
set_option linter.unusedVariables false
set_option linter.unusedSimpArgs false
open Go.Lib (hid)
section
namespace Go.Proofs.YtfpoabeihpfeiaaGreat.Cd
open Go.RowKit
open Rc Mo Lz
open Pk (Rp Pt applyL applyL_none applyL_long applyL_more fit_some)
def tkC (x : Pr) (p : Pt) : Bool := (p.fit (x.m.l.length : Int) x.m.r).isSome && decide (x.m.l.length < 2000)
noncomputable def codS (z : Pr × List Pt) (p : Pt) : Pr × List Pt := if tkC z.1 p = true then (z.1.put 3000 p, z.2 ++ [p]) else z
noncomputable def codA (x : Pr) (l : List Pt) : Pr × List Pt := l.foldl codS (x, [])
theorem codA_take {x : Pr} {l : List Pt} {k : Nat} (h : k < l.length) : codA x (l.take (k + 1)) = codS (codA x (l.take k)) l[k] := by
 unfold codA
 rw [List.take_add_one, List.getElem?_eq_getElem h, Option.toList_some, List.foldl_append]
 rfl
structure Inv (x : Pr) (z : Pr × List Pt) (k : Nat) : Prop where
 fit : FitAll 3000 x z.2
 run : runs 3000 x z.2 = z.1
 num : z.2.length <= k
 len : z.1.m.l.length <= 2272
 pos : z.1.m.r.pos
 turns : z.1.s.e.turns <= x.s.e.turns + 200 * k
 byte : ∀ p ∈ z.2, p.b < 256
theorem Inv.start {x : Pr} (h1 : x.m.l.length <= 2272) (h2 : x.m.r.pos) : Inv x (x, []) 0 :=
 ⟨trivial, rfl, Nat.le_refl _, h1, h2, by simp, by simp⟩
theorem fit_273 {p : Pt} {m : Ms} (hr : m.r.pos) {y : Int × Int × Rp} (h : p.fit (m.l.length : Int) m.r = some y) : y.2.1 <= 273 := by
 obtain ⟨d, n, s⟩ := y
 obtain ⟨_, h2⟩ := Pk.fit_some h hr
 rcases h2 with ⟨_, rfl⟩ | ⟨_, _, _, _, h3⟩
 · show (1 : Int) <= 273; omega
 · exact h3
theorem tkC_fit {x : Pr} {p : Pt} (hr : x.m.r.pos) (h : tkC x p = true) : ∃ y, fitM 3000 x.m p = some y := by
 unfold tkC at h
 simp only [Bool.and_eq_true, decide_eq_true_eq] at h
 obtain ⟨h1, h2⟩ := h
 obtain ⟨y, hy⟩ := Option.isSome_iff_exists.1 h1
 have := fit_273 hr hy
 refine ⟨y, ?_⟩
 unfold fitM
 rw [hy]
 exact if_pos (by omega)
theorem Inv.step {x : Pr} {z : Pr × List Pt} {k : Nat} (h : Inv x z k) {p : Pt} (hb : p.b < 256) : Inv x (codS z p) (k + 1) := by
 unfold codS
 by_cases ht : tkC z.1 p = true
 · rw [if_pos ht]
   obtain ⟨y, hy⟩ := tkC_fit h.pos ht
   have h2 : z.1.m.l.length < 2000 := by
    unfold tkC at ht
    simp only [Bool.and_eq_true, decide_eq_true_eq] at ht
    exact ht.2
   have hf := (fitM_some hy).1
   have h3 := fit_273 h.pos hf
   obtain ⟨t1, t2⟩ := z.1.m.tell_len h.pos hf
   have hrun : runs 3000 x (z.2 ++ [p]) = z.1.put 3000 p := by rw [runs_snoc, h.run]
   have hput := Pr.put_yes hy
   refine ⟨fitAll_snoc h.fit hb (by rw [h.run]; exact ⟨y, hy⟩), hrun, by simp only [List.length_append, List.length_cons, List.length_nil]; have := h.num; omega, ?_, ?_, ?_, ?_⟩
   · show (z.1.put 3000 p).m.l.length <= 2272
     rw [hput]
     show (z.1.m.tell p y).l.length <= 2272
     omega
   · show (z.1.put 3000 p).m.r.pos
     rw [hput]; exact t2
   · show (z.1.put 3000 p).s.e.turns <= _
     have := Pr.put_turns (most := 3000) (x := z.1) hb
     have := h.turns
     omega
   · intro q hq
     rcases List.mem_append.1 hq with hq | hq
     · exact h.byte q hq
     · rw [List.mem_singleton.1 hq]; exact hb
 · rw [if_neg ht]
   exact ⟨h.fit, h.run, by have := h.num; omega, h.len, h.pos, by have := h.turns; omega, h.byte⟩
theorem xNew_pos (lc lp pb : Nat) : (xNew lc lp pb).m.r.pos := ⟨by show (1 : Int) <= 1; omega, by show (1 : Int) <= 1; omega, by show (1 : Int) <= 1; omega, by show (1 : Int) <= 1; omega⟩
theorem Inv.all (lc lp pb : Nat) {l : List Pt} (hb : ∀ p ∈ l, p.b < 256) : ∀ k, k <= l.length -> Inv (xNew lc lp pb) (codA (xNew lc lp pb) (l.take k)) k
 | 0, _ => by rw [List.take_zero]; exact Inv.start (by show 0 <= 2272; omega) (xNew_pos lc lp pb)
 | k + 1, hk => by
  rw [codA_take (by omega : k < l.length)]
  exact (Inv.all lc lp pb hb k (by omega)).step (hb _ (List.getElem_mem _))
theorem apply_enc {N : Nat} : ∀ (l : List Pt) (x : Pr), x.m.r.pos -> (∀ p ∈ l, p.b < 256) -> (decide ((applyL N l x.m.l x.m.r).2 = 0) = (encR (N : Int) x l).isSome)
 | [], x, _, _ => rfl
 | p :: l, x, hr, hb => by
  cases hf : p.fit (x.m.l.length : Int) x.m.r with
  | none =>
   rw [applyL_none hf, encR_no (by unfold fitM; rw [hf])]
   rfl
  | some y =>
   obtain ⟨d, n, s⟩ := y
   obtain ⟨hs, hk⟩ := fit_some hf hr
   have hy : ∀ (h : n <= (N : Int) - (x.m.l.length : Int)), fitM (N : Int) x.m p = some (d, n, s) := fun h => by
    unfold fitM
    rw [hf]
    exact if_pos h
   have hno : ∀ (h : ¬ n <= (N : Int) - (x.m.l.length : Int)), fitM (N : Int) x.m p = none := fun h => by
    unfold fitM
    rw [hf]
    exact if_neg h
   have key : n <= (N : Int) - (x.m.l.length : Int) /\ p.tell N x.m.l d n = some (x.m.tell p (d, n, s)).l \/ ¬ n <= (N : Int) - (x.m.l.length : Int) /\ p.tell N x.m.l d n = none := by
    unfold Pk.Pt.tell
    rcases hk with ⟨hk, rfl⟩ | ⟨hk, _, _, h3, _⟩
    · rw [if_pos hk]
      by_cases hl : x.m.l.length < N
      · rw [if_pos hl]
        refine .inl ⟨by omega, ?_⟩
        simp only [Ms.tell, if_pos hk]
      · rw [if_neg hl]
        exact .inr ⟨by omega, rfl⟩
    · rw [if_neg hk]
      by_cases hl : x.m.l.length + n.toNat <= N
      · rw [if_pos hl]
        refine .inl ⟨by omega, ?_⟩
        simp only [Ms.tell, if_neg hk]
      · rw [if_neg hl]
        exact .inr ⟨by omega, rfl⟩
   rcases key with ⟨h1, h2⟩ | ⟨h1, h2⟩
   · rw [applyL_more hf h2, encR_yes (hy h1)]
     have hput := Pr.put_yes (most := (N : Int)) (hy h1)
     have hpl : (x.put (N : Int) p).m.l = (x.m.tell p (d, n, s)).l := by rw [hput]
     have hpr : (x.put (N : Int) p).m.r = s := by rw [hput]; rfl
     have := apply_enc (N := N) l (x.put (N : Int) p) (by rw [hpr]; exact hs) (fun q hq => hb q (List.mem_cons_of_mem _ hq))
     rw [hpl, hpr] at this
     exact this
   · rw [applyL_long hf h2, encR_no (hno h1)]
     rfl
end Go.Proofs.YtfpoabeihpfeiaaGreat.Cd
end
section
namespace Go.Proofs.YtfpoabeihpfeiaaGreat.Cd
open Go.RowKit Go.Maps
open Rc Mo Lz Dc
open Pk (Rp Pt four IsPts IsPt)
structure LockC (w0 : World) (d B N F : Nat) (v : Value) (z : Pr × List Pt) (w : World) (O : Paint) : Prop where
 run : Run w0 w O
 doc : DocAt w O 6 d B N z.1.m z.1.s.q
 var : ∃ u, EncV w O 7 u z.1.s.e /\ Blk w O 9 F (.cells #[u, .int .u64 z.1.s.e.size] 46 (0, 0))
 out : HeldP w O 10 v z.2
 ok : z.1.m.lc + z.1.m.lp <= 4 /\ z.1.m.pb <= 4 /\ z.1.m.st < 12 /\ z.1.m.r.pos /\ z.1.m.l.length <= 3000
 inv : ¬ z.1.m.st < 7 -> Wnd.there z.1.m.r.a z.1.m.l.length = true
section
variable {cs : List Nat} {w0 w w' : World} {O O' : Paint} {d B N N' F : Nat} {v : Value} {z : Pr × List Pt}
theorem LockC.step (h : LockC w0 d B N F v z w O) (hs : Step cs w O w' O') (h0 : 0 ∉ cs) (h6 : 6 ∉ cs) (h7 : 7 ∉ cs) (h9 : 9 ∉ cs) (h10 : 10 ∉ cs) : LockC w0 d B N F v z w' O' := by
 obtain ⟨u, hv, hF⟩ := h.var
 exact ⟨h.run.step hs h0, h.doc.step hs h6, ⟨u, hv.step hs h7, hF.step hs h9⟩, h.out.step hs h10, h.ok, h.inv⟩
theorem LockC.idle (h : LockC w0 d B N F v z w O) (hs : Step [] w O w' O') : LockC w0 d B N F v z w' O' := h.step hs (by simp) (by simp) (by simp) (by simp) (by simp)
theorem LockC.news (h : LockC w0 d B N F v z w O) (hb : Below w.heap.size w w') : LockC w0 d B N F v z w' O := h.idle (Step.of_below_same hb O)
theorem LockC.grow (h : LockC w0 d B N F v z w O) (hN : N <= N') : LockC w0 d B N' F v z w O := ⟨h.run, h.doc.mono hN, h.var, h.out, h.ok, h.inv⟩
theorem LockC.more {q : Pr} {l l' : List Pt} {v' : Value} (h : LockC w0 d B N F v (q, l) w O) (hs : Step [10] w O w' O') (hh : HeldP w' O' 10 v' l') : LockC w0 d B N F v' (q, l') w' O' := by
 obtain ⟨u, hv, hF⟩ := h.var
 exact ⟨h.run.step hs (by simp), h.doc.step hs (by simp), ⟨u, hv.step hs (by simp), hF.step hs (by simp)⟩, hh, h.ok, h.inv⟩
def PutToC (w0 : World) (d B N F : Nat) (v : Value) (q : Pr) (l : List Pt) (w : World) (O : Paint) (r : Ending) (w' : World) : Prop :=
 ∃ g cap O', r = .returned (.agg #[.slice (some ⟨g, 0, none⟩) (q.s.e.turns + 4) cap, .int .u64 q.s.e.size]) /\ (∃ v u, w'.cell? ⟨F, 0, none⟩ = some v /\ w'.cell? ⟨F, 1, none⟩ = some u) /\ (w'.frozen? ⟨F, 0, none⟩ = false /\ w'.frozen? ⟨F, 1, none⟩ = false) /\ Step [6, 9] w O ((w'.setCell ⟨F, 0, none⟩ (.slice (some ⟨g, 0, none⟩) (q.s.e.turns + 4) cap)).setCell ⟨F, 1, none⟩ (.int .u64 q.s.e.size)) O' /\ LockC w0 d B N F v (q, l) ((w'.setCell ⟨F, 0, none⟩ (.slice (some ⟨g, 0, none⟩) (q.s.e.turns + 4) cap)).setCell ⟨F, 1, none⟩ (.int .u64 q.s.e.size)) O'
theorem LockC.stored (h : LockC w0 d B N F v z w O) {z' : Pr} {cap g : Nat} (hs : Step [6] w O w' O') (hd : DocAt w' O' 6 d B N' z'.m z'.s.q) (he : EncV w' O' 7 (.slice (some ⟨g, 0, none⟩) (z'.s.e.turns + 4) cap) z'.s.e) (hok : z'.m.lc + z'.m.lp <= 4 /\ z'.m.pb <= 4 /\ z'.m.st < 12 /\ z'.m.r.pos /\ z'.m.l.length <= 3000) (hinv : ¬ z'.m.st < 7 -> Wnd.there z'.m.r.a z'.m.l.length = true) :
  PutToC w0 d B N' F v z' z.2 w O (.returned (.agg #[.slice (some ⟨g, 0, none⟩) (z'.s.e.turns + 4) cap, .int .u64 z'.s.e.size])) w' := by
 obtain ⟨v0, hv, hF⟩ := h.var
 have hF' := hF.step hs (by simp)
 obtain ⟨a0, a1, f0, f1, _⟩ := two hF'.1
 have hs5 : Step [9] w' O' ((w'.setCell ⟨F, 0, none⟩ (.slice (some ⟨g, 0, none⟩) (z'.s.e.turns + 4) cap)).setCell ⟨F, 1, none⟩ (.int .u64 z'.s.e.size)) O' :=
  ((Step.refl [9] w' O').setCell (p := ⟨F, 0, none⟩) (.inl (by simp [hF'.2])) _).setCell (p := ⟨F, 1, none⟩) (.inl (by simp [hF'.2])) _
 have hF5 := (hF'.setCell 0 (.slice (some ⟨g, 0, none⟩) (z'.s.e.turns + 4) cap)).setCell 1 (.int .u64 z'.s.e.size)
 simp at hF5
 exact ⟨g, cap, O', rfl, ⟨_, _, a0, a1⟩, ⟨f0, f1⟩, (hs.mono (by simp)).trans (hs5.mono (by simp)), (h.run.step hs (by simp)).step hs5 (by simp), hd.step hs5 (by simp), ⟨_, he.step hs5 (by simp), hF5⟩, (h.out.step hs (by simp)).step hs5 (by simp), hok, hinv⟩
theorem LockC.dput (h : LockC w0 d B N F v z w O) (ht : z.1.s.e.turns <= 500000) (hN : N <= 700000000) (p : Pt) (hb : p.b < 256) {y : Int × Int × Rp} (hf : fitM 3000 z.1.m p = some y) {u : Value} (hF : w.cell? ⟨F, 0, none⟩ = some u) :
  Calls Tryz.prog 16 #[.pointer (some ⟨d, 0, none⟩), .agg #[u, .int .u64 z.1.s.e.size], .agg #[.int .i64 p.k, .int .i64 p.d, .int .i64 p.n, .int .u8 p.b]] w (PutToC w0 d B (N + 100) F v (z.1.put 3000 p) z.2 w O) := by
 obtain ⟨v0, hv, hFb⟩ := h.var
 obtain ⟨a0, a1, f0, f1, _⟩ := two hFb.1
 rw [a0] at hF
 simp only [Option.some.injEq] at hF
 subst hF
 obtain ⟨q1, q2⟩ := pkOf_ok hb (fitM_some hf).1
 obtain ⟨o1, o2, o3, o4, o5⟩ := h.ok
 refine (dput_any h.doc hv (by omega) ht o1 o2 (by omega) o3 h.inv hN o4 p hb y (fitM_some hf).1 (pkOf p) q1 q2).mono ?_
 rintro r w' ⟨v', O', rfl, hs, hd, he⟩
 obtain ⟨g, cap, rfl⟩ := he.form
 obtain ⟨t1, t2⟩ := tell_ok (z := z.1) ⟨o1, o2, o3, o4, o5⟩ hf
 rw [Pr.put_yes hf]
 exact h.stored (z' := ⟨z.1.m.tell p y, (⟨z.1.s.e, z.1.s.q⟩ : Es).code z.1.m (pkOf p)⟩) hs hd he t1 t2
theorem LockC.dend (h : LockC w0 d B N F v z w O) (ht : z.1.s.e.turns <= 500000) (hN : N <= 700000000) {u : Value} (hF : w.cell? ⟨F, 0, none⟩ = some u) :
  Calls Tryz.prog 17 #[.pointer (some ⟨d, 0, none⟩), .agg #[u, .int .u64 z.1.s.e.size]] w (PutToC w0 d B (N + 52) F v ⟨z.1.m, z.1.s.code z.1.m pend⟩ z.2 w O) := by
 obtain ⟨v0, hv, hFb⟩ := h.var
 obtain ⟨a0, a1, f0, f1, _⟩ := two hFb.1
 rw [a0] at hF
 simp only [Option.some.injEq] at hF
 subst hF
 obtain ⟨o1, o2, o3, o4, o5⟩ := h.ok
 refine (dend_any h.doc hv (by omega) ht o2 (by omega) o3 hN).mono ?_
 rintro r w' ⟨v', O', rfl, hs, hd, he⟩
 obtain ⟨g, cap, rfl⟩ := he.form
 exact h.stored (z' := ⟨z.1.m, z.1.s.code z.1.m pend⟩) hs hd he ⟨o1, o2, o3, o4, o5⟩ h.inv
end
theorem fit_one {p : Pt} (hk : p.k = 1) (hv : Int) (r : Rp) : (p.fit hv r).isSome = decide (p.d = 0 /\ p.n = 0) := by
 unfold Pt.fit
 have hpl : p.plain = decide (p.d = 0 /\ p.n = 0) := by
  unfold Pt.plain
  simp [hk]
 rw [hpl]
 by_cases h : p.d = 0 /\ p.n = 0
 · rw [if_neg (by simp [h]), if_pos hk, decide_eq_true h]
   rfl
 · rw [if_pos (by simpa using h), decide_eq_false h]
   rfl
def CodedTo (w : World) (z : Pr × List Pt) (fin : Bool) (r : Ending) (w' : World) : Prop :=
 ∃ a cap, r = .returned (.tuple #[.slice a z.2.length cap, .string ⟨(encB z.1 fin).toArray⟩, .string ⟨z.1.m.l.toArray⟩]) /\ Below w.heap.size w w' /\ IsPts w' a z.2
theorem coded_any (lc lp pb : Nat) (hl : lc + lp <= 4) (hpb : pb <= 4) (a0 : Option Addr) (len cap : Nat) (fin : Bool) (w : World) (ps : List Pt) (hps : ps.length = min len 40) (hb : ∀ p ∈ ps, p.b < 256) (hlen : len <= maxLen) (h : IsPts w a0 ps) :
  Calls Tryz.prog 7 #[.slice a0 len cap, .agg #[.int .i64 lc, .int .i64 lp, .int .i64 pb], .bool fin] w (CodedTo w (codA (xNew lc lp pb) ps) fin) := by
 have HIP := hid h
 have HPS := hid hps
 have HPX := hid hb
 have h40 : ps.length <= 40 := by omega
 have hpl : ps.length <= len := by omega
 unfold maxLen at hlen
 have HSUM := hid hl
 have HPB := hid hpb
 clear h hps hb hl hpb
 go_enter Tryz.func7, Tryz.ntmps7
 go_upto_region 1 with (fail)
 have hX := Blk.new w (fun _ => 0) 8 (.cells #[.int .i64 lc, .int .i64 lp, .int .i64 pb] 26)
 have hs1 := Step.alloc_paint w (fun _ => 0) 8 (.cells #[.int .i64 lc, .int .i64 lp, .int .i64 pb] 26)
 have hR1 : Run w (w.alloc (.cells #[.int .i64 lc, .int .i64 lp, .int .i64 pb] 26)) (Step.paint (fun _ => 0) w 8) := (⟨Below.refl _ _, fun _ _ => rfl⟩ : Run w w (fun _ => 0)).step hs1 (by simp)
 obtain ⟨p0, p1, p2⟩ := Mo.three hX.1
 have HR1 := hid hR1
 generalize w.alloc (.cells #[.int .i64 lc, .int .i64 lp, .int .i64 pb] 26) = W1 at *
 generalize Step.paint (fun _ => 0) w 8 = O1 at *
 clear hX hs1 hR1
 go_wp2_with fail
 refine (dnew_any lc lp pb W1 O1 6).mono ?_
 rintro x w2 ⟨d, B, O2, rfl, hs2, hd2⟩
 have HS2 := hid hs2
 have HD2 := hid hd2
 clear hs2 hd2 p0 p1 p2
 go_wp2_with fail
 refine (Rc.new_any (.slice none 0 0) w2).mono ?_
 rintro x w5 ⟨vf, rfl, hrow, hb5, hmv⟩
 have hev : EncV w5 (Step.paint O2 w2 7) 7 vf Enc.start := ⟨hrow, fine_start, fun k hk => by
  rcases hmv with e | e
  · rw [e] at hk; simp [Value.ownBlock] at hk
  · exact Step.paint_new (e k hk)⟩
 obtain ⟨gf, capf, rfl⟩ := hev.form
 have hs5 := Step.of_below hb5 O2 7
 have HX0 : Hid (∃ X : Pr, X = xNew lc lp pb) := hid ⟨_, rfl⟩
 obtain ⟨X, hX⟩ := HX0.out
 have HXX := hid hX
 rw [<- hX]
 have hsA := Step.alloc_paint w5 (Step.paint O2 w2 7) 9 (.cells #[.slice (some ⟨gf, 0, none⟩) (Enc.start.turns + 4) capf, .int .u64 Enc.start.size] 46)
 have hFb := Blk.new w5 (Step.paint O2 w2 7) 9 (.cells #[.slice (some ⟨gf, 0, none⟩) (Enc.start.turns + 4) capf, .int .u64 Enc.start.size] 46)
 have HL0 : Hid (LockC w d B 0 w5.heap.size (.slice none 0 0) (X, []) (w5.alloc (.cells #[.slice (some ⟨gf, 0, none⟩) (Enc.start.turns + 4) capf, .int .u64 Enc.start.size] 46)) (Step.paint (Step.paint O2 w2 7) w5 9)) := hid (by
  have hs := hs5.trans hsA
  rw [hX]
  exact ⟨(HR1.out.step HS2.out (by simp)).step hs (by simp), HD2.out.step hs (by simp), ⟨_, hev.step hsA (by simp), hFb⟩, HeldP.nil _ _ _, ⟨HSUM.out, HPB.out, by show 0 < 12; omega, xNew_pos lc lp pb, by show 0 <= 3000; omega⟩, fun hst => absurd (show (0 : Nat) < 7 by omega) hst⟩)
 have HI0 : Hid (Inv X (codA X (ps.take 0)) 0) := hid (by rw [hX]; exact Inv.all lc lp pb HPX.out 0 (by omega))
 have HTX0 : Hid (X.s.e.turns = 0) := hid (by rw [hX]; rfl)
 clear hX HX0 hrow hb5 hmv hev hs5 hsA hFb HR1 HS2 HD2 HSUM HPB
 go_upto_region 2 with (fail)
 generalize w5.alloc (.cells #[.slice (some ⟨gf, 0, none⟩) (Enc.start.turns + 4) capf, .int .u64 Enc.start.size] 46) = W6 at *
 generalize Step.paint (Step.paint O2 w2 7) w5 9 = O6 at *
 generalize w5.heap.size = F at *
 go_wp2_with fail
 go_loopw [11, 12] (fun v i' wr => ∃ (k : Nat) (O : Paint), k <= ps.length /\ i' = .int .i64 k /\ Inv X (codA X (ps.take k)) k /\ LockC w d B (100 * k) F v (codA X (ps.take k)) wr O) (fun _ i' _ => ps.length - (intOf i').toNat)
 case atStart => exact ⟨0, O6, by omega, rfl, HI0.out, by rw [List.take_zero]; exact HL0.out⟩
 case round =>
  clear HL0 HI0
  obtain ⟨k, O, hk, rfl, hI, hL⟩ := hrel
  by_cases hlt : k < ps.length
  · have HCT := hid (codA_take (x := X) hlt)
    have HI1 : Hid (Inv X (codA X (ps.take (k + 1))) (k + 1)) := hid (by rw [HCT.out]; exact hI.step (HPX.out _ (List.getElem_mem hlt)))
    have HI := hid hI
    have HL := hid hL
    clear hI hL
    generalize codA X (ps.take k) = z at *
    obtain ⟨z', hz'⟩ : ∃ z', z' = codA X (ps.take (k + 1)) := ⟨_, rfl⟩
    rw [<- hz'] at HCT HI1
    have HZE := hid hz'
    clear hz'
    have hl1 : k < len := by omega
    have hl2 : k < 40 := by omega
    have hk0 : (0 : Int) <= (k : Int) := by omega
    have hkn : (k : Int).toNat = k := by omega
    have hki : (k : Int) < 40 := by omega
    have hkl : (k : Int) < (len : Int) := by omega
    rcases HIP.out with he | ⟨b0, off, rfl, hc⟩
    · rw [he] at hlt; simp at hlt
    · have hb0 := World.block_lt_of_cell? _ _ (hc k hlt).1
      have HPT := hid (fun (W : World) (hb : Below w.heap.size w W) => (hc k hlt).below hb)
      have hpb := HPX.out _ (List.getElem_mem hlt)
      clear hc HIP HPX
      generalize ps[k] = p at *
      obtain ⟨c0, c1, c2, c3, _⟩ := HPT.out wr HL.out.run.below
      obtain ⟨A9, p9, rfl⟩ := HL.out.out.slice
      clear HPT
      go_upto_region 7 with (fail)
      have hs5 := Step.alloc_paint wr O 8 (.cells #[.int .i64 p.k, .int .i64 p.d, .int .i64 p.n, .int .u8 p.b] 48)
      have HB5 := hid (Blk.new wr O 8 (.cells #[.int .i64 p.k, .int .i64 p.d, .int .i64 p.n, .int .u8 p.b] 48))
      have HL5 := hid (HL.out.idle hs5)
      clear hs5 HL c0 c1 c2 c3
      generalize wr.alloc (.cells #[.int .i64 p.k, .int .i64 p.d, .int .i64 p.n, .int .u8 p.b] 48) = W7 at *
      generalize wr.heap.size = Z at *
      generalize Step.paint O wr 8 = O7 at *
      go_cut [14] from 37 to 49 (fun b wc => b = .bool (decide (p.k = 1 /\ p.d = 0 /\ p.n = 0)) /\ wc = W7)
      case first =>
       as_aux_lemma =>
       clear HCT HI1 HI hpb HL5
       obtain ⟨⟨d0, d1, d2, d3⟩, _, _⟩ := four HB5.out.1
       by_cases hk1 : p.k = 1
       · have hq : (p.k == 1) = true := by simpa using hk1
         by_cases hz : p.d = 0
         · have hq1 : (p.d == 0) = true := by simpa using hz
           by_cases hn : p.n = 0
           · have hq2 : (p.n == 0) = true := by simpa using hn
             have HD : Hid (true = decide (p.k = 1 /\ p.d = 0 /\ p.n = 0)) := hid (by simp [hk1, hz, hn])
             clear hk1 hz hn
             go_wp2_with fail
             go_meet
             exact ⟨by rw [<- HD.out], rfl⟩
           · have hq2 : (p.n == 0) = false := by simpa using hn
             have HD : Hid (false = decide (p.k = 1 /\ p.d = 0 /\ p.n = 0)) := hid (by simp [hn])
             clear hk1 hz hn
             go_wp2_with fail
             go_meet
             exact ⟨by rw [<- HD.out], rfl⟩
         · have hq1 : (p.d == 0) = false := by simpa using hz
           have HD : Hid (false = decide (p.k = 1 /\ p.d = 0 /\ p.n = 0)) := hid (by simp [hz])
           clear hk1 hz
           go_wp2_with fail
           go_meet
           exact ⟨by rw [<- HD.out], rfl⟩
       · have hq : (p.k == 1) = false := by simpa using hk1
         have HD : Hid (false = decide (p.k = 1 /\ p.d = 0 /\ p.n = 0)) := hid (by simp [hk1])
         clear hk1
         go_wp2_with fail
         go_meet
         exact ⟨by rw [<- HD.out], rfl⟩
      case rest =>
      obtain ⟨rfl, hwc⟩ := hcut
      rw [hwc]
      obtain ⟨bk, hbk⟩ : ∃ bk, bk = decide (p.k = 1 /\ p.d = 0 /\ p.n = 0) := ⟨_, rfl⟩
      rw [<- hbk]
      have HBK0 := hid hbk
      clear hbk hwc
      obtain ⟨⟨d0, d1, d2, d3⟩, _, _⟩ := four HB5.out.1
      go_upto_if 52 with (fail)
      go_cut [14] from 37 to 68 (fun b wc => ∃ O9, b = .bool (p.fit (z.1.m.l.length : Int) z.1.m.r).isSome /\ LockC w d B (100 * k) F (.slice A9 z.2.length p9) z wc O9 /\ Blk wc O9 8 Z (.cells #[.int .i64 p.k, .int .i64 p.d, .int .i64 p.n, .int .u8 p.b] 48 (0, 0)))
      case first =>
       as_aux_lemma =>
       clear HCT HI1 HI hpb
       by_cases hk1 : p.k = 1
       · have hq : (p.k == 1) = true := by simpa using hk1
         have HF : Hid ((p.fit (z.1.m.l.length : Int) z.1.m.r).isSome = bk) := hid (by rw [HBK0.out, fit_one hk1]; simp [hk1])
         clear hk1
         go_wp2_with fail
         go_meet
         exact ⟨O7, by rw [HF.out], HL5.out, HB5.out⟩
       · have HBK := hid (fun W => Pk.back_fit p (z.1.m.l.length : Int) z.1.m.r W hk1)
         obtain ⟨c0, c1, c2, c3, c4, c5, c6, c7, c8, c9⟩ := ten HL5.out.doc.blk.1
         obtain ⟨tx, htx⟩ : ∃ tx : ByteArray, tx = ⟨z.1.m.l.toArray⟩ := ⟨_, rfl⟩
         rw [<- htx] at c9
         have htz : (tx.size : Int) = (z.1.m.l.length : Int) := by rw [htx]; rfl
         rw [<- htz] at HBK
         have HTX := hid htx
         have HTZ := hid htz
         clear htx htz
         have HS : Hid (∀ W', Below W7.heap.size W7 W' -> Below W7.heap.size W7 W' /\ ((W'.cell? ⟨Z, 0, none⟩ = some (.int .i64 p.k) /\ W'.cell? ⟨Z, 1, none⟩ = some (.int .i64 p.d) /\ W'.cell? ⟨Z, 2, none⟩ = some (.int .i64 p.n) /\ W'.cell? ⟨Z, 3, none⟩ = some (.int .u8 p.b)) /\ (W'.cell? ⟨d, 5, none⟩ = some (.int .i64 z.1.m.r.a) /\ W'.cell? ⟨d, 6, none⟩ = some (.int .i64 z.1.m.r.b) /\ W'.cell? ⟨d, 7, none⟩ = some (.int .i64 z.1.m.r.c) /\ W'.cell? ⟨d, 8, none⟩ = some (.int .i64 z.1.m.r.d) /\ W'.cell? ⟨d, 9, none⟩ = some (.string tx)))) := hid (fun W' hW => by
          have hs := Step.of_below_same hW O7
          have h1 := HB5.out.step hs (by simp)
          have h2 := HL5.out.idle hs
          obtain ⟨c0, c1, c2, c3, c4, c5, c6, c7, c8, c9⟩ := ten h2.doc.blk.1
          rw [<- HTX.out] at c9
          exact ⟨hW, (four h1.1).1, c5, c6, c7, c8, c9⟩)
         have hq : (p.k == 1) = false := by simpa using hk1
         have hq0 : decide (p.k = 1) = false := decide_eq_false hk1
         clear hk1
         go_upto_region 9 with (fail)
         go_region_held3 (fun W' => Below W7.heap.size W7 W' /\ ((W'.cell? ⟨Z, 0, none⟩ = some (.int .i64 p.k) /\ W'.cell? ⟨Z, 1, none⟩ = some (.int .i64 p.d) /\ W'.cell? ⟨Z, 2, none⟩ = some (.int .i64 p.n) /\ W'.cell? ⟨Z, 3, none⟩ = some (.int .u8 p.b)) /\ (W'.cell? ⟨d, 5, none⟩ = some (.int .i64 z.1.m.r.a) /\ W'.cell? ⟨d, 6, none⟩ = some (.int .i64 z.1.m.r.b) /\ W'.cell? ⟨d, 7, none⟩ = some (.int .i64 z.1.m.r.c) /\ W'.cell? ⟨d, 8, none⟩ = some (.int .i64 z.1.m.r.d) /\ W'.cell? ⟨d, 9, none⟩ = some (.string tx)))) ((refine HS.out _ ?_; repeat (first | assumption | exact Below.refl _ _ | refine Pk.bel_drew ?_ | refine Pk.bel_alloc _ ?_ | (refine Pk.bel_new (by assumption) ?_)))) (first | (go_at_call 15; (with_reducible refine (HBK.out _).mono ?_); rintro z1 w6 ⟨dd, nn1, s1, ⟨rfl, hb6⟩, hy6⟩))
         have hbA := Pk.bel_new hb6 (Pk.bel_drew (Below.refl W7.heap.size W7))
         have hsA := Step.of_below_same hbA O7
         have HL9 := hid (HL5.out.idle hsA)
         have HB9 := hid (HB5.out.step hsA (by simp))
         rw [HTZ.out]
         clear hbA hsA hb6 hy6 HS HBK
         go_wp2_with fail
         go_meet
         exact ⟨O7, rfl, HL9.out, HB9.out⟩
      case rest =>
       obtain ⟨O9, rfl, hL9, hB9⟩ := hcut
       have HL9 := hid hL9
       have HB9 := hid hB9
       clear hL9 hB9 HL5 HB5 d0 d1 d2 d3
       obtain ⟨W9, hWe⟩ : ∃ W', W' = wc := ⟨_, rfl⟩
       rw [<- hWe] at HL9 HB9 ⊢
       clear hWe
       obtain ⟨c0, c1, c2, c3, c4, c5, c6, c7, c8, c9⟩ := ten HL9.out.doc.blk.1
       clear c0 c1 c2 c3 c4 c5 c6 c7 c8
       obtain ⟨tx, htx⟩ : ∃ tx : ByteArray, tx = ⟨z.1.m.l.toArray⟩ := ⟨_, rfl⟩
       rw [<- htx] at c9
       have htz : (tx.size : Int) = (z.1.m.l.length : Int) := by rw [htx]; rfl
       clear htx
       have HTK := hid (show tkC z.1 p = ((p.fit (z.1.m.l.length : Int) z.1.m.r).isSome && decide (z.1.m.l.length < 2000)) from rfl)
       have HTF := hid (fun (h : tkC z.1 p = true) => tkC_fit HI.out.pos h)
       cases hfs : (p.fit (z.1.m.l.length : Int) z.1.m.r).isSome with
       | false =>
        as_aux_lemma =>
        have HZ : Hid (z' = z) := hid (by rw [HCT.out]; unfold codS; rw [if_neg (by rw [HTK.out, hfs]; simp)])
        rw [HZ.out] at HI1
        have HL10 := hid (HL9.out.grow (show 100 * k <= 100 * (k + 1) by omega))
        clear hfs HTK HTF HCT HL9 HB9 HI
        go_wp2_with fail
        go_roundw
        case rel => exact ⟨k + 1, O9, by omega, by go_num, by rw [<- HZE.out, HZ.out]; exact HI1.out, by rw [<- HZE.out, HZ.out]; exact HL10.out⟩
        case measure => simp [intOf]; omega
       | true =>
        by_cases h2k : z.1.m.l.length < 2000
        · have htk : tkC z.1 p = true := by rw [HTK.out, hfs, decide_eq_true h2k]; rfl
          obtain ⟨y, hy⟩ := HTF.out htk
          have HZ : Hid (z' = (z.1.put 3000 p, z.2 ++ [p])) := hid (by rw [HCT.out]; unfold codS; rw [if_pos htk])
          have htl : (tx.size : Int) < 2000 := by omega
          have HT9 : Hid (z.1.s.e.turns <= 200 * k) := hid (by have := HI.out.turns; rw [HTX0.out] at this; omega)
          obtain ⟨vv, hvv, hFF⟩ := HL9.out.var
          obtain ⟨g9, cap9, rfl⟩ := hvv.form
          obtain ⟨a0, a1, f0, f1, _⟩ := two hFF.1
          obtain ⟨⟨d0, d1, d2, d3⟩, _, _⟩ := four HB9.out.1
          have HDP := hid (HL9.out.dput (by have := HT9.out; omega) (by omega) p hpb hy a0)
          have HN9 := hid HI.out.num
          clear hfs HTK HTF HCT hy htk hvv hFF h2k htz HI
          go_wp2_with fail
          refine HDP.out.mono ?_
          rintro r w11 ⟨g, cap, O11, rfl, ⟨v9, u9, b0', b1'⟩, ⟨e0, e1⟩, hst, hL11⟩
          have HB11 := hid (HB9.out.step hst (by simp))
          have HL11 := hid hL11
          clear hst hL11 HDP a0 a1 f0 f1 d0 d1 d2 d3 HL9 HB9 c9
          generalize z.1.put 3000 p = q at *
          generalize z.2 = l at *
          go_upto_region 12 with (fail)
          clear b0' b1' e0 e1
          generalize (w11.setCell ⟨F, 0, none⟩ (.slice (some ⟨g, 0, none⟩) (q.s.e.turns + 4) cap)).setCell ⟨F, 1, none⟩ (.int .u64 q.s.e.size) = W11 at *
          obtain ⟨⟨d0, d1, d2, d3⟩, _, _⟩ := four HB11.out.1
          have HH11 : Hid (HeldP W11 O11 10 (.slice A9 l.length p9) l) := hid HL11.out.out
          have HROW := hid HH11.out.row
          obtain ⟨i0, hi, hz0, hz1, hz2⟩ := info_parts Pl.infoPk
          have hm1 : l.length + 1 <= maxLen := by have := HN9.out; unfold maxLen; omega
          have hm2 : (l.length + 1) * 32 <= 140737488355328 := by have := HN9.out; omega
          clear HB11
          go_wp2_with (at_builtin; refine wpList_append_one _ rfl _ _ 28 rfl 37 i0 (.agg #[.int .i64 0, .int .i64 0, .int .i64 0, .int .u8 0]) 4 32 Tryz.underlying28 hi hz0 hz1 hz2 rfl (by decide) (.slice A9 l.length p9) l.length _ rfl (HROW.out.alloc _) ⟨W11.heap.size, 0, none⟩ 1 [.int .i64 p.k, .int .i64 p.d, .int .i64 p.n, .int .u8 p.b] rfl rfl (Pl.pt_news (heap_alloc_new _ _)) (Pl.pt_one _ _ _ _) hm1 hm2 ?_; intro g9 cap9 w10 hown10 hgr10 hmv10; obtain ⟨t1, t2⟩ := HH11.out.more rfl hown10 hgr10 hmv10; have HT1 := hid t1; have HT2 := hid t2; clear t1 t2 hown10 hgr10 hmv10)
          go_roundw
          case rel => exact ⟨k + 1, _, by omega, by go_num, by rw [<- HZE.out]; exact HI1.out, by rw [<- HZE.out, HZ.out]; exact (HL11.out.grow (by omega)).more HT1.out HT2.out⟩
          case measure => simp [intOf]; omega
        · as_aux_lemma =>
          have htl : ¬ (tx.size : Int) < 2000 := by omega
          have HZ : Hid (z' = z) := hid (by rw [HCT.out]; unfold codS; rw [if_neg (by rw [HTK.out, hfs, decide_eq_false h2k]; simp)])
          rw [HZ.out] at HI1
          have HL10 := hid (HL9.out.grow (show 100 * k <= 100 * (k + 1) by omega))
          clear hfs HTK HTF HCT HL9 HB9 HI h2k htz
          go_wp2_with fail
          go_roundw
          case rel => exact ⟨k + 1, O9, by omega, by go_num, by rw [<- HZE.out, HZ.out]; exact HI1.out, by rw [<- HZE.out, HZ.out]; exact HL10.out⟩
          case measure => simp [intOf]; omega
  · obtain rfl : k = ps.length := by omega
    rw [List.take_length] at hI hL
    have HI := hid hI
    have HL := hid hL
    have hcond : (ps.length : Int) < (len : Int) -> ¬ (ps.length : Int) < 40 := by have := HPS.out; omega
    have hdd : ¬ ((ps.length : Int) < (len : Int)) \/ ((ps.length : Int) < (len : Int) /\ ¬ ((ps.length : Int) < 40)) := by
     by_cases hx : (ps.length : Int) < (len : Int)
     · exact .inr ⟨hx, hcond hx⟩
     · exact .inl hx
    clear hI hL HIP HPX hcond HPS hpl
    obtain ⟨z, hz⟩ : ∃ z, z = codA X ps := ⟨_, rfl⟩
    rw [<- hz] at HI HL
    have HZF : Hid (z = codA (xNew lc lp pb) ps) := hid (by rw [hz, HXX.out])
    clear hz
    generalize ps.length = K at *
    obtain ⟨A9, p9, rfl⟩ := HL.out.out.slice
    have HT9 : Hid (z.1.s.e.turns <= 200 * K) := hid (by have := HI.out.turns; rw [HTX0.out] at this; omega)
    rcases hdd with hdd | ⟨hdd, hdd2⟩
    all_goals
     go_upto_if 86 with (fail)
     go_cut [] from 87 to 89 (fun wc => ∃ (q : Pr) (O' : Paint), LockC w d B (100 * K + 52) F (.slice A9 z.2.length p9) (q, z.2) wc O' /\ q.s.e.turns <= 8200 /\ q.s.e.bytes = encB z.1 fin /\ q.m = z.1.m)
     case first =>
      as_aux_lemma =>
      clear hdd
      cases fin with
      | false =>
       have HL2 := hid (HL.out.grow (show 100 * K <= 100 * K + 52 by omega))
       go_wp2_with fail
       go_meet
       exact ⟨z.1, O, HL2.out, by have := HT9.out; omega, rfl, rfl⟩
      | true =>
       obtain ⟨vv, hvv, hFF⟩ := HL.out.var
       obtain ⟨g9, cap9, rfl⟩ := hvv.form
       obtain ⟨a0, a1, f0, f1, _⟩ := two hFF.1
       have HDP := hid (HL.out.dend (by have := HT9.out; omega) (by omega) a0)
       have HT2 := hid (Es.code_turns z.1.s z.1.m pend_ok)
       clear hvv hFF HL
       go_wp2_with fail
       refine HDP.out.mono ?_
       rintro r w11 ⟨g, cap, O11, rfl, ⟨v9, u9, b0', b1'⟩, ⟨e0, e1⟩, hst, hL11⟩
       have HL11 := hid hL11
       clear hst hL11 HDP a0 a1 f0 f1
       go_wp2_with fail
       go_meet
       exact ⟨⟨z.1.m, z.1.s.code z.1.m pend⟩, O11, HL11.out, by have := HT9.out; have := HT2.out; show (z.1.s.code z.1.m pend).e.turns <= 8200; omega, rfl, rfl⟩
     case rest =>
      obtain ⟨q, O12, hL12, ht12, hby, hqm⟩ := hcut
      have HL12 := hid hL12
      have HT12 := hid ht12
      have HBY := hid hby
      have HQM := hid hqm
      have HPB := hid HI.out.byte
      clear hL12 ht12 hby hqm HL HT9 HI
      obtain ⟨W12, hWe⟩ : ∃ W', W' = wc := ⟨_, rfl⟩
      rw [<- hWe] at HL12 ⊢
      clear hWe
      obtain ⟨vv, hvv, hFF⟩ := HL12.out.var
      obtain ⟨g9, cap9, rfl⟩ := hvv.form
      have HVV := hid hvv
      have HFF := hid hFF
      clear hvv hFF
      obtain ⟨tx, htx⟩ : ∃ tx : ByteArray, tx = ⟨z.1.m.l.toArray⟩ := ⟨_, rfl⟩
      have HTX := hid htx
      have HRE := hid (fun W' (hW : Below W12.heap.size W12 W') => Rc.end_any (HVV.out.step (Step.of_below_same hW O12) (by simp)).row (by have := HT12.out; show q.s.e.turns <= 1000000; omega) q.s.e.size)
      have HS : Hid (∀ W', Below W12.heap.size W12 W' -> Below W12.heap.size W12 W' /\ ((W'.cell? ⟨F, 0, none⟩ = some (.slice (some ⟨g9, 0, none⟩) (q.s.e.turns + 4) cap9) /\ W'.cell? ⟨F, 1, none⟩ = some (.int .u64 q.s.e.size)) /\ W'.cell? ⟨d, 9, none⟩ = some (.string tx))) := hid (fun W' hW => by
       have hs := Step.of_below_same hW O12
       have h1 := HFF.out.step hs (by simp)
       have h2 := HL12.out.idle hs
       obtain ⟨a0, a1, _⟩ := two h1.1
       have c9 := (ten h2.doc.blk.1).2.2.2.2.2.2.2.2.2
       rw [show (q, z.2).1.m = z.1.m from HQM.out, <- HTX.out] at c9
       exact ⟨hW, ⟨a0, a1⟩, c9⟩)
      have HBR := hid HL12.out.run.below
      have HOUT := hid HL12.out.out
      clear htx
      obtain ⟨hb0, ⟨a0, a1⟩, c9⟩ := HS.out W12 (Below.refl _ _)
      rw [HBY.out] at HRE
      clear hb0 HBY HQM HVV HFF HL12
      obtain ⟨BY, hBY⟩ : ∃ BY, BY = encB z.1 fin := ⟨_, rfl⟩
      rw [<- hBY] at HRE
      have HBYE := hid hBY
      clear hBY
      go_upto_region 15 with (fail)
      go_region_held3 (fun W' => Below W12.heap.size W12 W' /\ ((W'.cell? ⟨F, 0, none⟩ = some (.slice (some ⟨g9, 0, none⟩) (q.s.e.turns + 4) cap9) /\ W'.cell? ⟨F, 1, none⟩ = some (.int .u64 q.s.e.size)) /\ W'.cell? ⟨d, 9, none⟩ = some (.string tx))) ((refine HS.out _ ?_; repeat (first | assumption | exact Below.refl _ _ | refine Pk.bel_drew ?_ | refine Pk.bel_alloc _ ?_ | (refine Pk.bel_new (by assumption) ?_)))) (first | (go_at_call 18; (with_reducible refine (HRE.out _ (by repeat (first | assumption | exact Below.refl _ _ | refine Pk.bel_drew ?_ | (refine Pk.bel_new (by assumption) ?_)))).mono ?_); rintro z1 v4 ⟨rfl, hb14⟩))
      have hbA := Pk.bel_new hb14 (Pk.bel_drew (Below.refl W12.heap.size W12))
      have HBF := hid (HBR.out.trans (hbA.mono HBR.out.size))
      have HPT : Hid (IsPts v4 A9 z.2) := hid (by
       obtain ⟨a, c, he, hp⟩ := (HOUT.out.step (Step.of_below_same hbA O12) (by simp)).pts HPB.out
       simp only [Value.slice.injEq] at he
       rw [he.1]
       exact hp)
      clear hb14 hbA HS HRE a0 a1 c9 HBR HOUT HPB
      go_wp2_with fail
      go_ret3
      unfold CodedTo
      rw [<- HZF.out]
      have e1 := HTX.out
      have e2 := HBYE.out
      subst e1 e2
      exact ⟨A9, p9, rfl, HBF.out, HPT.out⟩
end Go.Proofs.YtfpoabeihpfeiaaGreat.Cd
end
