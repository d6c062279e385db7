/-
  What was put, with the end behind it, is got: of the bytes, and through Encode and Decode.
  What was put, with the end or without it, is read as these packets, whatever the limit; limits of Apply are as good as the text is long.
  What the document codes, as mathematics: its packets tell its text, also told again as reps.
  The walk of the statement LzencWrites: for all numbers and every list of packets it returns true, and writes nothing that was there.
  Statement LzencWrites: for every input the call returns true and its arguments read as before. The row's frame; no condition beside the statement's own.
  The walk of the statement LzencBack: what is told again as reps is written, and read, packet by packet.
-/
import Derived.Test.YtfpoabeihpfeiaaGreatPk36
import Derived.Test.YtfpoabeihpfeiaaGreatPk47
import Derived.Test.YtfpoabeihpfeiaaGreatPk50
import Derived.Test.YtfpoabeihpfeiaaGreatPk51
import Derived.Test.YtfpoabeihpfeiaaGreatPk52
import Derived.Test.YtfpoabeihpfeiaaGreatRows
import Derived.WalkKit
import Derived.ProofKit
import Derived.OpenShut
import Derived.ShutString
import Derived.ChangeOld
import Derived.Below
set_option maxRecDepth 100000
set_option maxHeartbeats 16000000
set_option linter.unusedVariables false
set_option linter.unusedSimpArgs false
open Go.Lib (hid)
section
namespace Go.Proofs.YtfpoabeihpfeiaaGreat.Lz
open Go.RowKit
open Rc Mo
open Pk (Rp Pt applyL IsPts)
theorem read_end {N M : Nat} {lc lp pb : Nat} {l : List Pt} {X : Pr} (hl : FitAll (M : Int) (xNew lc lp pb) l) (hX : X = runs (M : Int) (xNew lc lp pb) l) (hN : X.m.l.length = N) (hNM : N <= M) :
  readR lc lp pb ⟨(encB X true).toArray⟩ (-1) (M : Int) = some (X.m, l) := by
 have h0 : (xNew lc lp pb).s.Ok := start_ok lc lp pb
 have hpos : (xNew lc lp pb).m.r.pos := by unfold xNew mNew Pk.Rp.pos; simp
 have hmo : mostOf (-1) (M : Int) = (M : Int) := by unfold mostOf; rw [if_pos (by omega)]
 have hok := runs_ok (most := (M : Int)) (l := l) h0
 rw [<- hX] at hok
 have hE := (Es.Ok.code hok X.m pend)
 have hs := ahead_self (e := (X.s.code X.m pend).e) (by have := hE.fine.1; omega)
 obtain ⟨F, hF⟩ : ∃ F, F = (X.s.code X.m pend).e.low := ⟨_, rfl⟩
 obtain ⟨T, hT⟩ : ∃ T, T = (X.s.code X.m pend).e.turns := ⟨_, rfl⟩
 rw [<- hF, <- hT] at hs
 have ha := ahead_code hok hs
 have ha' : Ahead (runs (M : Int) (xNew lc lp pb) l).s.e F T := by rw [<- hX]; exact ha
 have ha0 := ahead_runs (most := (M : Int)) (l := l) (x := xNew lc lp pb) 0 h0 ha'
 have hrd : encB X true = 0 :: be (T + 4) F ++ [] := by rw [hF, hT]; simp [encB, Enc.bytes]
 have ha1 : Ahead Enc.start F T := by
  have := ha0
  simp only [List.take_zero] at this
  exact this
 have hst := follows_start (more := []) ha1
 rw [<- hrd] at hst
 have hf0 : Fol ⟨Dec.read (encB X true), qNew⟩ (xNew lc lp pb).s F T [] := ⟨hst, rfl⟩
 have hr := fol_runs h0 hl ha' hf0
 have hlen := (runs_len hpos hl).1
 rw [<- hX, hN] at hlen
 have hll : l.length <= N := by have : (xNew lc lp pb).m.l.length = 0 := rfl; omega
 have hlk1 : ∀ m : Ms, lacksB (-1) m = true := fun m => by unfold lacksB; simp
 have key : ∀ (j k f : Nat), j + k = l.length -> j < f -> decR (-1) (M : Int) f (runs (M : Int) (xNew lc lp pb) (l.take k)).m (dsN (M : Int) (xNew lc lp pb) l ⟨Dec.read (encB X true), qNew⟩ k) (l.take k) = some (X.m, l) := by
  intro j
  induction j with
  | zero =>
   intro k f hk hf
   obtain ⟨f', rfl⟩ : ∃ f', f = f' + 1 := ⟨f - 1, by omega⟩
   have hkl : k = l.length := by omega
   have hfol := hr k (by omega)
   rw [hkl, List.take_length, <- hX] at hfol ⊢
   obtain ⟨g1, g2⟩ := fol_end (most := (M : Int)) hok hs hfol
   have g3 := g2.f
   rw [hF, hT] at g3
   obtain ⟨r1, r2, r3⟩ := follows_end g3
   have hov : over ((dsN (M : Int) (xNew lc lp pb) l ⟨Dec.read (encB X true), qNew⟩ l.length).code X.m) = true := by unfold over; simp [Dec.done, r1, r2, r3]
   rw [decR_end ⟨hlk1 _, hfol.f.1⟩ g1, hov, if_pos ⟨by omega, rfl⟩]
  | succ j ih =>
   intro k f hk hf
   obtain ⟨f', rfl⟩ : ∃ f', f = f' + 1 := ⟨f - 1, by omega⟩
   have hkl : k < l.length := by omega
   have hlk : l[k]? = some l[k] := List.getElem?_eq_getElem hkl
   obtain ⟨hb, y, hy⟩ := fitAll_at hl hlk
   have ha2 := ahead_runs (most := (M : Int)) (l := l) (x := xNew lc lp pb) (k + 1) h0 ha'
   rw [runs_take hlk] at ha2
   have hfol := hr k (by omega)
   obtain ⟨g1, _⟩ := fol_put (runs_ok h0) hb hy ha2 hfol
   rw [<- runs_take hlk] at g1
   rw [decR_more ⟨hlk1 _, hfol.f.1⟩ g1]
   have htk : l.take k ++ [l[k]] = l.take (k + 1) := by rw [List.take_succ_eq_append_getElem hkl]
   rw [htk]
   exact ih (k + 1) f' (by omega) (by omega)
 unfold readR
 rw [hmo]
 have := key l.length 0 ((M : Int).toNat + 1) (by omega) (by simp; omega)
 rw [List.take_zero] at this
 simpa [dsN, runs, xNew] using this
theorem back_end (lc lp pb : Nat) (hl : lc + lp <= 4) (hpb : pb <= 4) {qs : List Pt} {s : ByteArray} (hb : ∀ p ∈ qs, p.b < 256) (h : applyL s.size qs [] ⟨1, 1, 1, 1⟩ = (s.data.toList, 0)) (hs : s.size <= 16777216) (hq : qs.length <= 1000) :
  ∃ bs : ByteArray, (∀ (W : World) (a : Option Addr) (cap : Nat), IsPts W a qs -> Calls Tryz.prog 12 #[.slice a qs.length cap, .agg #[.int .i64 lc, .int .i64 lp, .int .i64 pb], .bool true] W fun z w' => z = .returned (.tuple #[.string bs, .int .i64 0]) /\ Below W.heap.size W w') /\
   ∀ W : World, Calls Tryz.prog 9 #[.string bs, .agg #[.int .i64 lc, .int .i64 lp, .int .i64 pb], .int .i64 (-1), .int .i64 s.size] W fun x w' => x = .returned (.tuple #[.string s, .int .i64 0]) /\ Below W.heap.size W w' := by
 have hss : (⟨s.data.toList.toArray⟩ : ByteArray) = s := by cases s; simp
 have hN : s.data.toList.length = s.size := by rw [Array.length_toList]; rfl
 obtain ⟨h1, h2⟩ := fitAll_apply qs (xNew lc lp pb) (by unfold xNew mNew Pk.Rp.pos; simp) hb h
 obtain ⟨h3, h4⟩ := runs_mono (M := 16777216) (by omega) h1
 have hE : encR 16777216 (xNew lc lp pb) qs = some (runs (s.size : Int) (xNew lc lp pb) qs) := by rw [encR_all h3, h4]
 have hR := read_end h1 rfl (by rw [h2]; exact hN) (Nat.le_refl _)
 have ht := runs_turns h1
 have hok := runs_ok (most := (s.size : Int)) (l := qs) (start_ok lc lp pb : (xNew lc lp pb).s.Ok)
 generalize runs (s.size : Int) (xNew lc lp pb) qs = X at *
 have hct := Es.code_turns X.s X.m pend_ok
 have h0 : (xNew lc lp pb).s.e.turns = 0 := rfl
 have hlen : (encB X true).length = (X.s.code X.m pend).e.turns + 5 := by simp [encB, Enc.bytes, be_length]
 have hbs : (⟨(encB X true).toArray⟩ : ByteArray).size <= 1000000000000 := by show (encB X true).toArray.size <= _; rw [List.size_toArray]; omega
 refine ⟨⟨(encB X true).toArray⟩, fun W a cap hi => ?_, fun W => ?_⟩
 · have := encode_any lc lp pb hl hpb true (cap := cap) hi hq
   rw [hE] at this
   exact this
 · have := dec_any lc lp pb hl hpb ⟨(encB X true).toArray⟩ hbs (-1) (s.size : Int) (by omega) (by omega) (by omega) (by omega) W
   rw [hR] at this
   have hv : decV (some (X.m, qs)) = .tuple #[.string s, .int .i64 0] := by
    show Value.tuple #[.string ⟨X.m.l.toArray⟩, .int .i64 0] = _
    rw [h2, hss]
   rw [hv] at this
   exact this
end Go.Proofs.YtfpoabeihpfeiaaGreat.Lz
end
section
namespace Go.Proofs.YtfpoabeihpfeiaaGreat.Lz
open Go.RowKit
open Rc Mo
open Pk (Rp Pt applyL IsPts)
open Wnd (copied copied_length)
theorem copied_pre (l : List UInt8) (d : Nat) : ∀ n, ∃ k, copied l d n = l ++ k
 | 0 => ⟨[], by rw [List.append_nil]; rfl⟩
 | n + 1 => by
  obtain ⟨k, hk⟩ := copied_pre l d n
  refine ⟨k ++ [(copied l d n).getD ((copied l d n).length - d) 0], ?_⟩
  rw [copied, <- List.append_assoc, <- hk]
theorem tell_pre {p : Pt} {most : Nat} {l l' : List UInt8} {d n : Int} (h : p.tell most l d n = some l') : ∃ k, l' = l ++ k := by
 unfold Pk.Pt.tell at h
 split at h
 · split at h
   · cases h; exact ⟨_, rfl⟩
   · cases h
 · split at h
   · cases h; exact copied_pre _ _ _
   · cases h
theorem apply_pre {most : Nat} {t : List UInt8} : ∀ (ps : List Pt) (l : List UInt8) (r : Rp), applyL most ps l r = (t, 0) -> ∃ k, t = l ++ k
 | [], l, r, h => by
  have e := congrArg Prod.fst h
  exact ⟨[], by rw [List.append_nil]; exact e.symm⟩
 | p :: ps, l, r, h => by
  rw [applyL] at h
  split at h
  · simp at h
  · split at h
    · simp at h
    · rename_i l' ht
      obtain ⟨k1, h1⟩ := tell_pre ht
      obtain ⟨k2, h2⟩ := apply_pre ps l' _ h
      exact ⟨k1 ++ k2, by rw [h2, h1, List.append_assoc]⟩
theorem tell_tight {p : Pt} {M N : Nat} {l l' : List UInt8} {d n : Int} (h : p.tell M l d n = some l') (hN : l'.length <= N) : p.tell N l d n = some l' := by
 unfold Pk.Pt.tell at h ⊢
 split at h
 · rename_i hk
   rw [if_pos hk]
   split at h
   · cases h
     rw [if_pos (by simp at hN; omega)]
   · cases h
 · rename_i hk
   rw [if_neg hk]
   split at h
   · cases h
     rw [copied_length] at hN
     rw [if_pos hN]
   · cases h
theorem apply_tight {M N : Nat} {t : List UInt8} (hN : t.length <= N) : ∀ (ps : List Pt) (l : List UInt8) (r : Rp), applyL M ps l r = (t, 0) -> applyL N ps l r = (t, 0)
 | [], l, r, h => h
 | p :: ps, l, r, h => by
  rw [applyL] at h ⊢
  split at h
  · simp at h
  · rename_i d n r' hf
    split at h
    · simp at h
    · rename_i l' ht
      obtain ⟨k, hk⟩ := apply_pre ps l' _ h
      have hle : l'.length <= N := by
       have := congrArg List.length hk
       rw [List.length_append] at this
       omega
      simp only [hf, tell_tight ht hle]
      exact apply_tight hN ps l' r' h
def askN (fin : Bool) (N : Nat) : Int := if fin then -1 else (N : Int)
theorem back_fin (fin : Bool) (lc lp pb : Nat) (hl : lc + lp <= 4) (hpb : pb <= 4) {qs : List Pt} {s : ByteArray} {M : Nat} (hb : ∀ p ∈ qs, p.b < 256) (h : applyL s.size qs [] ⟨1, 1, 1, 1⟩ = (s.data.toList, 0)) (hs : s.size <= 16777216) (hM : s.size <= M) (hq : qs.length <= 1000) :
  ∃ (bs : ByteArray) (m : Ms), (∀ (W : World) (a : Option Addr) (cap : Nat), IsPts W a qs -> Calls Tryz.prog 12 #[.slice a qs.length cap, .agg #[.int .i64 lc, .int .i64 lp, .int .i64 pb], .bool fin] W fun z w' => z = .returned (.tuple #[.string bs, .int .i64 0]) /\ Below W.heap.size W w') /\
   readR lc lp pb bs (askN fin s.size) (M : Int) = some (m, qs) /\ (⟨m.l.toArray⟩ : ByteArray) = s /\ bs.size <= 1000000000000 := by
 have hss : (⟨s.data.toList.toArray⟩ : ByteArray) = s := by cases s; simp
 have hN : s.data.toList.length = s.size := by rw [Array.length_toList]; rfl
 obtain ⟨h1, h2⟩ := fitAll_apply qs (xNew lc lp pb) (by unfold xNew mNew Pk.Rp.pos; simp) hb h
 obtain ⟨h3, h4⟩ := runs_mono (M := 16777216) (by omega) h1
 obtain ⟨h5, h6⟩ := runs_mono (M := (M : Int)) (by omega) h1
 have hE : encR 16777216 (xNew lc lp pb) qs = some (runs (s.size : Int) (xNew lc lp pb) qs) := by rw [encR_all h3, h4]
 have ht := runs_turns h1
 have hok := runs_ok (most := (s.size : Int)) (l := qs) (start_ok lc lp pb : (xNew lc lp pb).s.Ok)
 have h0 : (xNew lc lp pb).s.e.turns = 0 := rfl
 have hR : readR lc lp pb ⟨(encB (runs (s.size : Int) (xNew lc lp pb) qs) fin).toArray⟩ (askN fin s.size) (M : Int) = some ((runs (s.size : Int) (xNew lc lp pb) qs).m, qs) := by
  cases fin with
  | true => exact read_end (N := s.size) h5 (by rw [h6]) (by rw [h2]; exact hN) hM
  | false =>
   have := read_run h1 rfl (by rw [h2]; exact hN) (by omega)
   unfold readR at this ⊢
   have e1 : mostOf (askN false s.size) (M : Int) = (s.size : Int) := by unfold mostOf askN; simp; omega
   have e2 : mostOf (s.size : Int) (s.size : Int) = (s.size : Int) := by unfold mostOf; split <;> rfl
   rw [e1]
   rw [e2] at this
   exact this
 generalize runs (s.size : Int) (xNew lc lp pb) qs = X at *
 have hct := Es.code_turns X.s X.m pend_ok
 have hlen : (encB X fin).length <= X.s.e.turns + 205 := by
  cases fin <;> simp [encB, Enc.bytes, be_length] <;> omega
 refine ⟨⟨(encB X fin).toArray⟩, X.m, fun W a cap hi => ?_, hR, by rw [h2, hss], by show (encB X fin).toArray.size <= _; rw [List.size_toArray]; omega⟩
 have := encode_any lc lp pb hl hpb fin (cap := cap) hi hq
 rw [hE] at this
 exact this
end Go.Proofs.YtfpoabeihpfeiaaGreat.Lz
end
section
namespace Go.Proofs.YtfpoabeihpfeiaaGreat.Lz
open Go.RowKit
open Rc Mo
open Pk (Rp Pt applyL IsPts repL rrep rep_same rrep_length rrep_bytes)
open Cd (codA Inv apply_enc xNew_pos)
theorem coded_applies {lc lp pb : Nat} {z : Pr × List Pt} {k : Nat} (h : Inv (xNew lc lp pb) z k) : applyL 3000 z.2 [] ⟨1, 1, 1, 1⟩ = (z.1.m.l, 0) := by
 have hen : encR (3000 : Int) (xNew lc lp pb) z.2 = some z.1 := by rw [encR_all h.fit, h.run]
 have hap := apply_enc (N := 3000) z.2 (xNew lc lp pb) (xNew_pos lc lp pb) h.byte
 rw [show ((3000 : Nat) : Int) = 3000 from rfl, hen] at hap
 have hap2 : (applyL 3000 z.2 [] ⟨1, 1, 1, 1⟩).2 = 0 := of_decide_eq_true hap
 have hap3 : applyL 3000 z.2 [] ⟨1, 1, 1, 1⟩ = ((applyL 3000 z.2 [] ⟨1, 1, 1, 1⟩).1, 0) := by rw [<- hap2]
 obtain ⟨_, h2⟩ := fitAll_apply (N := 3000) z.2 (xNew lc lp pb) (xNew_pos lc lp pb) h.byte hap3
 rw [show ((3000 : Nat) : Int) = 3000 from rfl, h.run] at h2
 rw [<- h2] at hap3
 exact hap3
theorem coded_tells (lc lp pb : Nat) {l : List Pt} (hb : ∀ p ∈ l, p.b < 256) : applyL (codA (xNew lc lp pb) l).1.m.l.length (repL (codA (xNew lc lp pb) l).2 0 ⟨1, 1, 1, 1⟩ ⟨1, 1, 1, 1⟩) [] ⟨1, 1, 1, 1⟩ = ((codA (xNew lc lp pb) l).1.m.l, 0) /\
  (repL (codA (xNew lc lp pb) l).2 0 ⟨1, 1, 1, 1⟩ ⟨1, 1, 1, 1⟩).length = (codA (xNew lc lp pb) l).2.length /\ ∀ p ∈ repL (codA (xNew lc lp pb) l).2 0 ⟨1, 1, 1, 1⟩ ⟨1, 1, 1, 1⟩, p.b < 256 := by
 have h := Inv.all lc lp pb hb l.length (Nat.le_refl _)
 rw [List.take_length] at h
 generalize codA (xNew lc lp pb) l = z at *
 have hap3 := coded_applies h
 obtain ⟨r1, r2⟩ := rep_same 3000 z.1.m.l z.2 [] ⟨1, 1, 1, 1⟩ ⟨1, 1, 1, 1⟩ (by unfold Rp.pos; simp) (by unfold Rp.pos; simp) (by unfold Rp.small; simp) rfl hap3
 exact ⟨apply_tight (Nat.le_refl _) _ _ _ r2, by rw [show repL z.2 0 ⟨1, 1, 1, 1⟩ ⟨1, 1, 1, 1⟩ = rrep z.2 ⟨1, 1, 1, 1⟩ ⟨1, 1, 1, 1⟩ from r1, rrep_length],
  fun q hq => rrep_bytes z.2 ⟨1, 1, 1, 1⟩ ⟨1, 1, 1, 1⟩ h.byte q (by rw [<- show repL z.2 0 ⟨1, 1, 1, 1⟩ ⟨1, 1, 1, 1⟩ = rrep z.2 ⟨1, 1, 1, 1⟩ ⟨1, 1, 1, 1⟩ from r1]; exact hq)⟩
theorem eq_pkt11 (k d n : Int) (b : Nat) (w : World) : (Op.equalIn 10000 37 (.agg #[.int .i64 k, .int .i64 d, .int .i64 n, .int .u8 b]) (.agg #[.int .i64 k, .int .i64 d, .int .i64 n, .int .u8 b])).run Tryz.prog w = .ok true w := by
 rw [run_equalIn_struct (P := Tryz.prog) w 9999 37 _ _ (by kernel_rfl) (by kernel_rfl)]
 simp [go_sem, Tryz.underlying37, Tryz.underlying3, Tryz.underlying5]
theorem bel_dn {B : Nat} {W0 W : World} (h : Below B W0 W) (n : Nat) : Below B W0 (W.drewN n) := ⟨h.os, h.tape, h.output, h.size, h.block⟩
end Go.Proofs.YtfpoabeihpfeiaaGreat.Lz
end
section
section
namespace Go.Proofs.YtfpoabeihpfeiaaGreat.Cd
open Go.RowKit Go.Maps
open Rc Mo Lz Dc
open Pk (Rp Pt four IsPts IsPt applyL)
noncomputable def uptoV (x : Option Pr) (most : Int) : Value := match x with
 | none => .tuple #[.string ⟨#[]⟩, .bool false]
 | some x => if ((encB x false).length : Int) < most then .tuple #[.string ⟨(encB x false).toArray⟩, .bool true] else .tuple #[.string ⟨#[]⟩, .bool false]
theorem upto12_any (lc lp pb : Nat) (hl : lc + lp <= 4) (hpb : pb <= 4) (most : Int) {a : Option Addr} {ps : List Pt} {cap : Nat} {w : World} (h : IsPts w a ps) (hn : ps.length <= 1000) :
  Calls Tryz.prog 23 #[.slice a ps.length cap, .agg #[.int .i64 lc, .int .i64 lp, .int .i64 pb], .int .i64 most] w fun z w' => z = .returned (uptoV (encR 16777216 (xNew lc lp pb) ps) most) /\ Below w.heap.size w w' := by
 have hb1 : Below w.heap.size w (w.alloc (.cells #[.int .i64 lc, .int .i64 lp, .int .i64 pb] 26)) := (Below.refl _ _).alloc (Nat.le_refl _) _
 have hz := heap_alloc_new w (.cells #[.int .i64 lc, .int .i64 lp, .int .i64 pb] 26)
 have HEN := hid (fun W (hb : Below w.heap.size w W) => encode_any lc lp pb hl hpb false (cap := cap) (h.below hb) hn)
 clear h hl hpb hn
 have HB1 := hid hb1
 obtain ⟨p0, p1, p2⟩ := three_cells hz
 clear hb1 hz
 generalize encR 16777216 (xNew lc lp pb) ps = R at *
 cases R with
 | none =>
  unfold encV at HEN
  unfold uptoV
  dsimp only at HEN ⊢
  go_enter Tryz.func23, Tryz.ntmps23
  go_upto_region 1 with (fail)
  generalize w.alloc (.cells #[.int .i64 lc, .int .i64 lp, .int .i64 pb] 26) = W1 at *
  go_wp2_with fail
  refine (HEN.out W1 HB1.out).mono ?_
  rintro x w2 ⟨rfl, hb2⟩
  have HB2 := hid (HB1.out.trans (hb2.mono HB1.out.size))
  clear hb2 HB1 HEN p0 p1 p2
  go_wp2_with fail
  go_ret2
  exact ⟨rfl, HB2.out⟩
 | some y =>
  unfold encV at HEN
  unfold uptoV
  obtain ⟨tx, htx⟩ : ∃ tx : ByteArray, tx = ⟨(encB y false).toArray⟩ := ⟨_, rfl⟩
  have hts : (tx.size : Int) = ((encB y false).length : Int) := by rw [htx]; rfl
  dsimp only at HEN ⊢
  rw [<- htx] at HEN ⊢
  rw [<- hts]
  clear htx hts
  by_cases hlen : (tx.size : Int) < most
  · rw [if_pos hlen]
    have h1 : ¬ most <= (tx.size : Int) := by omega
    have h2 : decide (most <= (tx.size : Int)) = false := decide_eq_false h1
    go_enter Tryz.func23, Tryz.ntmps23
    go_upto_region 1 with (fail)
    generalize w.alloc (.cells #[.int .i64 lc, .int .i64 lp, .int .i64 pb] 26) = W1 at *
    go_wp2_with fail
    refine (HEN.out W1 HB1.out).mono ?_
    rintro x w2 ⟨rfl, hb2⟩
    have HB2 := hid (HB1.out.trans (hb2.mono HB1.out.size))
    clear hb2 HB1 HEN p0 p1 p2
    go_wp2_with fail
    go_ret2
    exact ⟨rfl, HB2.out⟩
  · rw [if_neg hlen]
    have h1 : most <= (tx.size : Int) := by omega
    have h2 : decide (most <= (tx.size : Int)) = true := decide_eq_true h1
    go_enter Tryz.func23, Tryz.ntmps23
    go_upto_region 1 with (fail)
    generalize w.alloc (.cells #[.int .i64 lc, .int .i64 lp, .int .i64 pb] 26) = W1 at *
    go_wp2_with fail
    refine (HEN.out W1 HB1.out).mono ?_
    rintro x w2 ⟨rfl, hb2⟩
    have HB2 := hid (HB1.out.trans (hb2.mono HB1.out.size))
    clear hb2 HB1 HEN p0 p1 p2
    go_wp2_with fail
    go_ret2
    exact ⟨rfl, HB2.out⟩
theorem encode_bad (lc lp pb : Int) (h1 : -9223372036854775808 <= lc /\ lc <= 9223372036854775807) (h2 : -9223372036854775808 <= lp /\ lp <= 9223372036854775807) (h : goodB lc lp pb = false) (v : Value) (fin : Bool) (w : World) :
  Calls Tryz.prog 12 #[v, .agg #[.int .i64 lc, .int .i64 lp, .int .i64 pb], .bool fin] w fun z w' => z = .returned (.tuple #[.string ⟨#[]⟩, .int .i64 1]) /\ Below w.heap.size w w' := by
 have hb1 : Below w.heap.size w (w.alloc (.cells #[.int .i64 lc, .int .i64 lp, .int .i64 pb] 26)) := (Below.refl _ _).alloc (Nat.le_refl _) _
 have hz := heap_alloc_new w (.cells #[.int .i64 lc, .int .i64 lp, .int .i64 pb] 26)
 have HG := hid (fun W => good_any lc lp pb h1 h2 W)
 rw [h] at HG
 clear h h1 h2
 go_enter Tryz.func12, Tryz.ntmps12
 go_upto_region 1 with (fail)
 have HB1 := hid hb1
 obtain ⟨p0, p1, p2⟩ := three_cells hz
 clear hb1 hz
 generalize w.alloc (.cells #[.int .i64 lc, .int .i64 lp, .int .i64 pb] 26) = W1 at *
 go_wp2_with fail
 refine (HG.out W1).mono ?_
 rintro x w2 ⟨rfl, hb2⟩
 have HB2 := hid (HB1.out.trans (hb2.mono HB1.out.size))
 clear hb2 HB1 HG p0 p1 p2
 go_wp2_with fail
 go_ret2
 exact ⟨rfl, HB2.out⟩
theorem start_bytes (lc lp pb : Nat) : encB (xNew lc lp pb) false = [0, 0, 0, 0, 0] := by
 show Enc.start.bytes = _
 decide +kernel
theorem speaks12 (w : World) : Calls Tryz.prog 10 #[] w fun x w' => x = .returned (.bool true) /\ Below w.heap.size w w' := by
 have HE := hid (fun W => encode_any 3 0 0 (by omega) (by omega) false (a := none) (ps := []) (cap := 0) (w := W) (.inl rfl) (by simp))
 have HB := hid (fun W => encode_bad 3 2 0 (by omega) (by omega) (by decide) (.slice none 0 0) false W)
 have HU := hid (fun W => upto12_any 0 0 0 (by omega) (by omega) 6 (a := none) (ps := []) (cap := 0) (w := W) (.inl rfl) (by simp))
 have e1 : encV (encR 16777216 (xNew 3 0 0) []) false = .tuple #[.string ⟨#[0, 0, 0, 0, 0]⟩, .int .i64 0] := by
  show encV (some (xNew 3 0 0)) false = _
  unfold encV
  dsimp only
  rw [start_bytes]
 have e2 : uptoV (encR 16777216 (xNew 0 0 0) []) 6 = .tuple #[.string ⟨#[0, 0, 0, 0, 0]⟩, .bool true] := by
  show uptoV (some (xNew 0 0 0)) 6 = _
  unfold uptoV
  dsimp only
  rw [start_bytes]
  rfl
 rw [e1] at HE
 rw [e2] at HU
 clear e1 e2
 go_enter Tryz.func10, Tryz.ntmps10
 go_wp2_with fail
 refine (show Calls Tryz.prog 12 #[.slice none 0 0, .agg #[.int .i64 3, .int .i64 0, .int .i64 0], .bool false] w _ from HE.out w).mono ?_
 rintro x w1 ⟨rfl, hb1⟩
 have HB1 := hid hb1
 clear hb1 HE
 go_wp2_with fail
 refine (HB.out w1).mono ?_
 rintro x w2 ⟨rfl, hb2⟩
 have HB2 := hid (HB1.out.trans (hb2.mono HB1.out.size))
 clear hb2 HB HB1
 go_wp2_with fail
 refine (show Calls Tryz.prog 23 #[.slice none 0 0, .agg #[.int .i64 0, .int .i64 0, .int .i64 0], .int .i64 6] w2 _ from HU.out w2).mono ?_
 rintro x w3 ⟨rfl, hb3⟩
 have HB3 := hid (HB2.out.trans (hb3.mono HB2.out.size))
 clear hb3 HU HB2
 go_wp2_with fail
 go_ret
 exact ⟨rfl, HB3.out⟩
end Go.Proofs.YtfpoabeihpfeiaaGreat.Cd
end
section
namespace Go.Proofs.YtfpoabeihpfeiaaGreat.lzencWrites
open Go.ChangeShapes Go.WideShapes Go.ChangeAt Go.RowKit
open Go.ChangeMaps (open_string shut_string)
theorem own : ownKnob Tryz.prog.godebug = none := by kernel_rfl
end Go.Proofs.YtfpoabeihpfeiaaGreat.lzencWrites
namespace Go.Proofs.YtfpoabeihpfeiaaGreat
end Go.Proofs.YtfpoabeihpfeiaaGreat
end
end
section
namespace Go.Proofs.YtfpoabeihpfeiaaGreat.Lz
open Go.RowKit
open Rc Mo
open Pk (Rp Pt applyL IsPts repL rrep rep_same rrep_length rrep_bytes)
open Cd (codA Inv apply_enc xNew_pos coded_any CodedTo speaks12)
open Gr (again_any)
theorem lzb_walk (x0 x1 x2 : Nat) (a0 : Option Addr) (len cap : Nat) (fin : Bool) (w : World) (ps : List Pt) (h0 : x0 < 256) (h1 : x1 < 256) (h2 : x2 < 256) (hps : ps.length = min len 40) (hpb : ∀ p ∈ ps, p.b < 256) (hlen : len <= maxLen) (h : IsPts w a0 ps) :
  Calls Tryz.prog 4 #[.agg #[.int .u8 x0, .int .u8 x1, .int .u8 x2], .slice a0 len cap, .bool fin] w fun x w' => x = .returned (.bool true) /\ Below w.heap.size w w' := by
 have HPS := hid hps
 have HPX := hid hpb
 have h40 : ps.length <= 40 := by omega
 have HPA := hid (fun W => params11_any x0 x1 x2 h0 h1 h2 W)
 have HSUM := par_sum x0 x1
 have HPB : x2 % 5 <= 4 := by omega
 have hb1 : Below w.heap.size w (w.alloc (.cells #[.int .u8 x0, .int .u8 x1, .int .u8 x2] 22)) := (Below.refl _ _).alloc (Nat.le_refl _) _
 have HBX := hid (heap_alloc_new w (.cells #[.int .u8 x0, .int .u8 x1, .int .u8 x2] 22))
 have HB1 := hid hb1
 generalize parL x0 = lc at *
 generalize parP x0 x1 = lp at *
 generalize x2 % 5 = pb at *
 have HCD := hid (fun (W : World) (hb : Below w.heap.size w W) => coded_any lc lp pb HSUM HPB a0 len cap fin W ps HPS.out HPX.out hlen (h.below hb))
 have hiv := Inv.all lc lp pb HPX.out ps.length (Nat.le_refl _)
 rw [List.take_length] at hiv
 obtain ⟨t1, t2, t3⟩ := coded_tells lc lp pb HPX.out
 unfold maxLen at hlen
 clear h hps hpb h0 h1 h2 hb1
 generalize codA (xNew lc lp pb) ps = z at *
 obtain ⟨s, hs⟩ : ∃ s : ByteArray, s = ⟨z.1.m.l.toArray⟩ := ⟨_, rfl⟩
 have hsl : s.data.toList = z.1.m.l := by rw [hs]
 have hsz : s.size = z.1.m.l.length := by rw [hs]; exact List.size_toArray
 have hs2272 : s.size <= 2272 := by rw [hsz]; exact hiv.len
 rw [<- hsl] at t1
 rw [show s.data.toList.length = s.size from by rw [Array.length_toList]; rfl] at t1
 have hzn : z.2.length <= 1000 := by have := hiv.num; omega
 have HZB := hid hiv.byte
 obtain ⟨qs, hqs⟩ : ∃ qs, qs = repL z.2 0 ⟨1, 1, 1, 1⟩ ⟨1, 1, 1, 1⟩ := ⟨_, rfl⟩
 rw [<- hqs] at t1 t2 t3
 have hqn : qs.length <= 1000 := by omega
 obtain ⟨bs, m, hE, hR, hm, hbs⟩ := back_fin fin lc lp pb HSUM HPB (M := 1048576) t3 t1 (by omega) (by omega) hqn
 have hak : -9223372036854775808 <= askN fin s.size /\ askN fin s.size <= 1048576 := by unfold askN; split <;> omega
 have HPK := hid (fun (W : World) => packets_any lc lp pb HSUM HPB bs hbs (askN fin s.size) 1048576 (by omega) (by omega) hak.2 hak.1 W)
 have HDC := hid (fun (W : World) => dec_any lc lp pb HSUM HPB bs hbs (askN fin s.size) 1048576 (by omega) (by omega) hak.2 hak.1 W)
 rw [show ((1048576 : Nat) : Int) = 1048576 from rfl] at hR
 rw [hR] at HPK HDC
 rw [show decV (some (m, qs)) = .tuple #[.string s, .int .i64 0] from by show Value.tuple #[.string ⟨m.l.toArray⟩, .int .i64 0] = _; rw [hm]] at HDC
 have HENC := hid hE
 have HT2 := hid t2
 have HT3 := hid t3
 have HQS := hid hqs
 have HSS := hid hs
 have HNE := hid (fun (k d n : Int) (b : Nat) (W : World) => eq_pkt11 k d n b W)
 clear hiv t1 t2 t3 hE hR hm hbs hqs hs hsl hsz hak HSUM HPB HPX HPS
 go_enter Tryz.func4, Tryz.ntmps4
 go_upto_region 1 with (fail)
 generalize w.alloc (.cells #[.int .u8 x0, .int .u8 x1, .int .u8 x2] 22) = W1 at *
 go_wp2_with fail
 refine (speaks12 W1).mono ?_
 rintro x w2 ⟨rfl, hb2⟩
 have HB2 := hid (HB1.out.trans (hb2.mono HB1.out.size))
 have hX2 := (hb2.block _ (lt_of_heap HBX.out)).trans HBX.out
 obtain ⟨p0, p1, p2⟩ := Mo.three hX2
 clear hb2 HB1 HBX hX2
 go_wp2_with fail
 refine (HPA.out w2).mono ?_
 rintro x w3 ⟨rfl, hb3⟩
 have HB3 := hid (HB2.out.trans (hb3.mono HB2.out.size))
 clear hb3 HB2 p0 p1 p2 HPA
 go_upto_region 4 with (fail)
 have HB4 := hid (HB3.out.alloc HB3.out.size (.cells #[.int .i64 lc, .int .i64 lp, .int .i64 pb] 26))
 have HX4 := hid (heap_alloc_new w3 (.cells #[.int .i64 lc, .int .i64 lp, .int .i64 pb] 26))
 generalize w3.alloc (.cells #[.int .i64 lc, .int .i64 lp, .int .i64 pb] 26) = W4 at *
 generalize w3.heap.size = P at *
 clear HB3
 obtain ⟨p0, p1, p2⟩ := Mo.three HX4.out
 go_wp2_with fail
 refine (HCD.out W4 HB4.out).mono ?_
 rintro x w5 ⟨ag, cg, rfl, hb5, hg5⟩
 have HB5 := hid (HB4.out.trans (hb5.mono HB4.out.size))
 have HX5 := hid ((hb5.block _ (lt_of_heap HX4.out)).trans HX4.out)
 have hag := again_any (cap := cg) (Below.refl w5.heap.size w5) hg5 hzn (by rw [<- HQS.out]; exact HT3.out) (by rw [<- HQS.out]; exact HT2.out)
 rw [<- HQS.out] at hag
 have HAG := hid hag
 rw [<- HSS.out]
 clear hb5 hg5 hag HB4 HX4 p0 p1 p2 HCD HQS HSS HT2 HT3 HZB
 generalize z.2.length = zl at *
 generalize (⟨(encB z.1 fin).toArray⟩ : ByteArray) = ez at *
 clear z
 have ha0 : askN false s.size = (s.size : Int) := rfl
 have ha1 : askN true s.size = (-1 : Int) := rfl
 have hss : (s.toList == s.toList) = true := by simp
 cases fin
 all_goals
  first
  | rw [ha0] at HPK HDC
  | rw [ha1] at HPK HDC
  clear ha0 ha1
  go_wp2_with fail
  refine HAG.out.mono ?_
  rintro x w6 ⟨Z6, rfl, hb6, hI6⟩
  have HB6 := hid (HB5.out.trans (hb6.mono HB5.out.size))
  have HX6 := hid ((hb6.block _ (lt_of_heap HX5.out)).trans HX5.out)
  have HI6 := hid hI6
  clear hb6 hI6 HB5 HX5 HAG
  obtain ⟨p0, p1, p2⟩ := Mo.three HX6.out
  go_wp2_with fail
  refine (HENC.out _ _ _ HI6.out).mono ?_
  rintro x w7 ⟨rfl, hb7⟩
  have HB7 := hid (HB6.out.trans (hb7.mono HB6.out.size))
  have HX7 := hid ((hb7.block _ (lt_of_heap HX6.out)).trans HX6.out)
  have HI7 := hid (HI6.out.below hb7)
  clear hb7 HB6 HX6 HI6 HENC p0 p1 p2
  obtain ⟨p0, p1, p2⟩ := Mo.three HX7.out
  go_wp2_with fail
  refine (HPK.out w7).mono ?_
  rintro x w8 hpk
  rcases hpk with ⟨_, h, _⟩ | ⟨v8, m8, acc, rfl, h, hb8, hrow, hby⟩
  · cases h
  have hq8 : acc = qs := by cases h; rfl
  rw [hq8] at hrow hby
  clear hq8 h
  obtain ⟨a8, c8, rfl, hI8⟩ := Pl.PtsT.slice (l := qs) hrow hby
  have HB8 := hid (HB7.out.trans (hb8.mono HB7.out.size))
  have HX8 := hid ((hb8.block _ (lt_of_heap HX7.out)).trans HX7.out)
  have HI8 := hid (HI7.out.below hb8)
  have HJ8 := hid hI8
  clear hb8 hI8 hrow hby HB7 HX7 HI7 HPK p0 p1 p2
  obtain ⟨p0, p1, p2⟩ := Mo.three HX8.out
  go_wp2_with fail
  refine (HDC.out w8).mono ?_
  rintro x w9 ⟨rfl, hb9⟩
  have HB9 := hid (HB8.out.trans (hb9.mono HB8.out.size))
  have HI9 := hid (HI8.out.below hb9)
  have HJ9 := hid (HJ8.out.below hb9)
  clear hb9 HB8 HX8 HI8 HJ8 HDC p0 p1 p2
  go_wp2_with fail
  go_loopw [19] (fun i wr => ∃ k : Nat, k <= qs.length /\ i = .int .i64 k /\ Below w9.heap.size w9 wr) (fun i _ => qs.length - (intOf i).toNat)
  case atStart => exact ⟨0, Nat.zero_le _, rfl, Below.refl _ _⟩
  case round =>
   obtain ⟨k, hk, rfl, hbr⟩ := hrel
   rename World => wo
   by_cases hlt : k < qs.length
   · rcases HI9.out.below hbr with h | ⟨bb, oo, he, hI⟩
     · rw [h] at hlt; simp at hlt
     · rcases HJ9.out.below hbr with h | ⟨cc, qq, he2, hJ⟩
       · rw [h] at hlt; simp at hlt
       · simp only [Option.some.injEq, Addr.mk.injEq, and_true] at he
         obtain ⟨rfl, rfl⟩ := he
         subst he2
         obtain ⟨p0, p1, p2, p3, _⟩ := hI k hlt
         obtain ⟨q0, q1, q2, q3, _⟩ := hJ k hlt
         rw [Nat.zero_add] at p0 p1 p2 p3
         have hq := HNE.out qs[k].k qs[k].d qs[k].n qs[k].b
         have e0 : (0 : Int) <= (k : Int) := by omega
         have e1 : (k : Int) < (qs.length : Int) := by omega
         have e2 : (k : Int).toNat = k := rfl
         have HBR := hid hbr
         clear hI hJ hbr
         generalize qs[k].k = kk at *
         generalize qs[k].d = dd at *
         generalize qs[k].n = nn at *
         generalize qs[k].b = bb at *
         go_upto_region 17 with (fail)
         go_quiet (fail)
         have HBR2 := hid (show Below w9.heap.size w9 (wo.drewN nq) from bel_dn HBR.out nq)
         generalize wo.drewN nq = wq at *
         clear HBR p0 p1 p2 p3 q0 q1 q2 q3 hq
         go_wp2_with fail
         go_roundw
         case rel => exact ⟨k + 1, by omega, by go_num, HBR2.out⟩
         case measure => (simp [intOf]; try omega)
   · obtain rfl : k = qs.length := by omega
     have HB10 := hid (HB9.out.trans (hbr.mono HB9.out.size))
     clear hbr HB9 HI9 HJ9
     go_wp2_with fail
     go_ret
     exact ⟨rfl, HB10.out⟩
end Go.Proofs.YtfpoabeihpfeiaaGreat.Lz
end
