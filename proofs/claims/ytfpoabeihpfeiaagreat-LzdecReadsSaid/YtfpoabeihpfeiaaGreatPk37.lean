/-
  What was put, with the end behind it, is got: of the bytes, and through Encode and Decode.
  What was put, with the end or without it, is read as these packets, whatever the limit; limits of Apply are as good as the text is long.
-/
import Derived.Test.YtfpoabeihpfeiaaGreatPk36

section
set_option linter.unusedVariables false
set_option linter.unusedSimpArgs false
namespace Go.Proofs.YtfpoabeihpfeiaaGreat.Lz
open Go.RowKit
open Rc Mo
open Pk (Rp Pt applyL IsPts)
set_option maxHeartbeats 4000000 in
theorem read_end {N M : Nat} {lc lp pb : Nat} {l : List Pt} {X : Pr} (hl : FitAll (M : Int) (xNew lc lp pb) l) (hX : X = runs (M : Int) (xNew lc lp pb) l) (hN : X.m.l.length = N) (hNM : N ≤ M) :
  readR lc lp pb ⟨(encB X true).toArray⟩ (-1) (M : Int) = some (X.m, l) := by
 have h0 : (xNew lc lp pb).s.Ok := start_ok lc lp pb
 have hpos : (xNew lc lp pb).m.r.pos := by unfold xNew mNew Pk.Rp.pos; simp
 have hmo : mostOf (-1) (M : Int) = (M : Int) := by unfold mostOf; rw [if_pos (by omega)]
 have hok := runs_ok (most := (M : Int)) (l := l) h0
 rw [← hX] at hok
 have hE := (Es.Ok.code hok X.m pend)
 have hs := ahead_self (e := (X.s.code X.m pend).e) (by have := hE.fine.1; omega)
 obtain ⟨F, hF⟩ : ∃ F, F = (X.s.code X.m pend).e.low := ⟨_, rfl⟩
 obtain ⟨T, hT⟩ : ∃ T, T = (X.s.code X.m pend).e.turns := ⟨_, rfl⟩
 rw [← hF, ← hT] at hs
 have ha := ahead_code hok hs
 have ha' : Ahead (runs (M : Int) (xNew lc lp pb) l).s.e F T := by rw [← hX]; exact ha
 have ha0 := ahead_runs (most := (M : Int)) (l := l) (x := xNew lc lp pb) 0 h0 ha'
 have hrd : encB X true = 0 :: be (T + 4) F ++ [] := by rw [hF, hT]; simp [encB, Enc.bytes]
 have ha1 : Ahead Enc.start F T := by
  have := ha0
  simp only [List.take_zero] at this
  exact this
 have hst := follows_start (more := []) ha1
 rw [← hrd] at hst
 have hf0 : Fol ⟨Dec.read (encB X true), qNew⟩ (xNew lc lp pb).s F T [] := ⟨hst, rfl⟩
 have hr := fol_runs h0 hl ha' hf0
 have hlen := (runs_len hpos hl).1
 rw [← hX, hN] at hlen
 have hll : l.length ≤ N := by have : (xNew lc lp pb).m.l.length = 0 := rfl; omega
 have hlk1 : ∀ m : Ms, lacksB (-1) m = true := fun m => by unfold lacksB; simp
 have key : ∀ (j k f : Nat), j + k = l.length → j < f → decR (-1) (M : Int) f (runs (M : Int) (xNew lc lp pb) (l.take k)).m (dsN (M : Int) (xNew lc lp pb) l ⟨Dec.read (encB X true), qNew⟩ k) (l.take k) = some (X.m, l) := by
  intro j
  induction j with
  | zero =>
   intro k f hk hf
   obtain ⟨f', rfl⟩ : ∃ f', f = f' + 1 := ⟨f - 1, by omega⟩
   have hkl : k = l.length := by omega
   have hfol := hr k (by omega)
   rw [hkl, List.take_length, ← hX] at hfol ⊢
   obtain ⟨g1, g2⟩ := fol_end (most := (M : Int)) hok hs hfol
   have g3 := g2.f
   rw [hF, hT] at g3
   obtain ⟨r1, r2, r3⟩ := follows_end g3
   have hov : over ((dsN (M : Int) (xNew lc lp pb) l ⟨Dec.read (encB X true), qNew⟩ l.length).code X.m) = true := by unfold over; simp [Dec.done, r1, r2, r3]
   rw [decR_end ⟨hlk1 _, hfol.f.1⟩ g1, hov, if_pos ⟨by omega, rfl⟩]
  | succ j ih =>
   intro k f hk hf
   obtain ⟨f', rfl⟩ : ∃ f', f = f' + 1 := ⟨f - 1, by omega⟩
   have hkl : k < l.length := by omega
   have hlk : l[k]? = some l[k] := List.getElem?_eq_getElem hkl
   obtain ⟨hb, y, hy⟩ := fitAll_at hl hlk
   have ha2 := ahead_runs (most := (M : Int)) (l := l) (x := xNew lc lp pb) (k + 1) h0 ha'
   rw [runs_take hlk] at ha2
   have hfol := hr k (by omega)
   obtain ⟨g1, _⟩ := fol_put (runs_ok h0) hb hy ha2 hfol
   rw [← runs_take hlk] at g1
   rw [decR_more ⟨hlk1 _, hfol.f.1⟩ g1]
   have htk : l.take k ++ [l[k]] = l.take (k + 1) := by rw [List.take_succ_eq_append_getElem hkl]
   rw [htk]
   exact ih (k + 1) f' (by omega) (by omega)
 unfold readR
 rw [hmo]
 have := key l.length 0 ((M : Int).toNat + 1) (by omega) (by simp; omega)
 rw [List.take_zero] at this
 simpa [dsN, runs, xNew] using this
theorem back_end (lc lp pb : Nat) (hl : lc + lp ≤ 4) (hpb : pb ≤ 4) {qs : List Pt} {s : ByteArray} (hb : ∀ p ∈ qs, p.b < 256) (h : applyL s.size qs [] ⟨1, 1, 1, 1⟩ = (s.data.toList, 0)) (hs : s.size ≤ 16777216) (hq : qs.length ≤ 1000) :
  ∃ bs : ByteArray, (∀ (W : World) (a : Option Addr) (cap : Nat), IsPts W a qs → Calls Tryz.prog 12 #[.slice a qs.length cap, .agg #[.int .i64 (lc : Int), .int .i64 (lp : Int), .int .i64 (pb : Int)], .bool true] W fun z w' => z = .returned (.tuple #[.string bs, .int .i64 0]) ∧ Below W.heap.size W w') ∧
   ∀ W : World, Calls Tryz.prog 9 #[.string bs, .agg #[.int .i64 (lc : Int), .int .i64 (lp : Int), .int .i64 (pb : Int)], .int .i64 (-1), .int .i64 (s.size : Int)] W fun x w' => x = .returned (.tuple #[.string s, .int .i64 0]) ∧ Below W.heap.size W w' := by
 have hss : (⟨s.data.toList.toArray⟩ : ByteArray) = s := by cases s; simp
 have hN : s.data.toList.length = s.size := by rw [Array.length_toList]; rfl
 obtain ⟨h1, h2⟩ := fitAll_apply qs (xNew lc lp pb) (by unfold xNew mNew Pk.Rp.pos; simp) hb h
 obtain ⟨h3, h4⟩ := runs_mono (M := 16777216) (by omega) h1
 have hE : encR 16777216 (xNew lc lp pb) qs = some (runs (s.size : Int) (xNew lc lp pb) qs) := by rw [encR_all h3, h4]
 have hR := read_end h1 rfl (by rw [h2]; exact hN) (Nat.le_refl _)
 have ht := runs_turns h1
 have hok := runs_ok (most := (s.size : Int)) (l := qs) (start_ok lc lp pb : (xNew lc lp pb).s.Ok)
 generalize runs (s.size : Int) (xNew lc lp pb) qs = X at *
 have hct := Es.code_turns X.s X.m pend_ok
 have h0 : (xNew lc lp pb).s.e.turns = 0 := rfl
 have hlen : (encB X true).length = (X.s.code X.m pend).e.turns + 5 := by simp [encB, Enc.bytes, be_length]
 have hbs : (⟨(encB X true).toArray⟩ : ByteArray).size ≤ 1000000000000 := by show (encB X true).toArray.size ≤ _; rw [List.size_toArray]; omega
 refine ⟨⟨(encB X true).toArray⟩, fun W a cap hi => ?_, fun W => ?_⟩
 · have := encode_any lc lp pb hl hpb true (cap := cap) hi hq
   rw [hE] at this
   exact this
 · have := dec_any lc lp pb hl hpb ⟨(encB X true).toArray⟩ hbs (-1) (s.size : Int) (by omega) (by omega) (by omega) (by omega) W
   rw [hR] at this
   have hv : decV (some (X.m, qs)) = .tuple #[.string s, .int .i64 0] := by
    show Value.tuple #[.string ⟨X.m.l.toArray⟩, .int .i64 0] = _
    rw [h2, hss]
   rw [hv] at this
   exact this
end Go.Proofs.YtfpoabeihpfeiaaGreat.Lz
end
section
set_option linter.unusedVariables false
set_option linter.unusedSimpArgs false
namespace Go.Proofs.YtfpoabeihpfeiaaGreat.Lz
open Go.RowKit
open Rc Mo
open Pk (Rp Pt applyL IsPts)
open Wnd (copied copied_length)
theorem copied_pre (l : List UInt8) (d : Nat) : ∀ n, ∃ k, copied l d n = l ++ k
 | 0 => ⟨[], by rw [List.append_nil]; rfl⟩
 | n + 1 => by
  obtain ⟨k, hk⟩ := copied_pre l d n
  refine ⟨k ++ [(copied l d n).getD ((copied l d n).length - d) 0], ?_⟩
  rw [copied, ← List.append_assoc, ← hk]
theorem tell_pre {p : Pt} {most : Nat} {l l' : List UInt8} {d n : Int} (h : p.tell most l d n = some l') : ∃ k, l' = l ++ k := by
 unfold Pk.Pt.tell at h
 split at h
 · split at h
   · cases h; exact ⟨_, rfl⟩
   · cases h
 · split at h
   · cases h; exact copied_pre _ _ _
   · cases h
theorem apply_pre {most : Nat} {t : List UInt8} : ∀ (ps : List Pt) (l : List UInt8) (r : Rp), applyL most ps l r = (t, 0) → ∃ k, t = l ++ k
 | [], l, r, h => by
  have e := congrArg Prod.fst h
  exact ⟨[], by rw [List.append_nil]; exact e.symm⟩
 | p :: ps, l, r, h => by
  rw [applyL] at h
  split at h
  · simp at h
  · split at h
    · simp at h
    · rename_i l' ht
      obtain ⟨k1, h1⟩ := tell_pre ht
      obtain ⟨k2, h2⟩ := apply_pre ps l' _ h
      exact ⟨k1 ++ k2, by rw [h2, h1, List.append_assoc]⟩
theorem tell_tight {p : Pt} {M N : Nat} {l l' : List UInt8} {d n : Int} (h : p.tell M l d n = some l') (hN : l'.length ≤ N) : p.tell N l d n = some l' := by
 unfold Pk.Pt.tell at h ⊢
 split at h
 · rename_i hk
   rw [if_pos hk]
   split at h
   · cases h
     rw [if_pos (by simp at hN; omega)]
   · cases h
 · rename_i hk
   rw [if_neg hk]
   split at h
   · cases h
     rw [copied_length] at hN
     rw [if_pos hN]
   · cases h
theorem apply_tight {M N : Nat} {t : List UInt8} (hN : t.length ≤ N) : ∀ (ps : List Pt) (l : List UInt8) (r : Rp), applyL M ps l r = (t, 0) → applyL N ps l r = (t, 0)
 | [], l, r, h => h
 | p :: ps, l, r, h => by
  rw [applyL] at h ⊢
  split at h
  · simp at h
  · rename_i d n r' hf
    split at h
    · simp at h
    · rename_i l' ht
      obtain ⟨k, hk⟩ := apply_pre ps l' _ h
      have hle : l'.length ≤ N := by
       have := congrArg List.length hk
       rw [List.length_append] at this
       omega
      simp only [hf, tell_tight ht hle]
      exact apply_tight hN ps l' r' h
def askN (fin : Bool) (N : Nat) : Int := if fin then -1 else (N : Int)
end Go.Proofs.YtfpoabeihpfeiaaGreat.Lz
end
