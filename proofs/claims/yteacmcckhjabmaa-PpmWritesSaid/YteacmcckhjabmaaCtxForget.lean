/-
  Package context: the contract of restart.
-/
import Derived.Test.YteacmcckhjabmaaCtxStep
import Derived.RegionTactic
import Derived.BigRegion
set_option linter.unusedVariables false
set_option linter.unusedSimpArgs false
namespace Go.Proofs.Yteacmcckhjabmaa.Cx
open Go.RowKit
open Rc Ar Fq
section
variable {cs : List Nat} {w w' : World} {O O' : Paint} {b d : Nat} {m : CM} {r : Rw}
theorem RwAt.col (h : RwAt w O b d m r) : b ∉ [b + 1] ∧ b ∉ [b + 7] := by simp
theorem sl_form {w : World} {O : Paint} {c : Nat} {e : TypeId} {v : Value} {xs : List Value} (h : Held w O c e v xs) : ∃ A p, v = .slice A xs.length p ∧ Held w O c e (.slice A 0 p) [] ∧ (A = none → p = 0) := by
  rcases h.row.2 with ⟨e1, e2⟩ | ⟨g, p, cur, e1, hb, hg, h1, h2, h3, h4⟩
  · subst e1
    exact ⟨none, 0, by rw [e2], ⟨World.ownsRow_nil _ _ _ _, fun k hk => by simp [Value.ownBlock] at hk⟩, fun _ => rfl⟩
  · refine ⟨some ⟨g, 0, none⟩, p, e1, ⟨⟨rfl, .inr ⟨g, p, cur, rfl, hb, hg, Nat.zero_le _, h2, h3, rfl⟩⟩, fun k hk => h.paint k (by rw [e1]; exact hk)⟩, fun e => by cases e⟩
theorem Rw.Ok.forget {r : Rw} (h : r.Ok) : r.forget.Ok :=
  ⟨h.order, h.cells, Nat.zero_le _, ⟨Nat.zero_le _, fun x hx => by cases hx⟩, Nat.zero_le _, (fun i hi => by cases hi), (fun i l hi => by cases hi), (fun x y i hi => by cases hi)⟩
theorem six_blk {w : World} {O : Paint} {c X : Nat} {a b c' d e f : Value} {t : TypeId} (h : Blk w O c X (.cells #[a, b, c', d, e, f] t (0, 0))) :
    (∀ u, Blk (w.setCell ⟨X, 3, none⟩ u) O c X (.cells #[a, b, c', u, e, f] t (0, 0))) ∧ (∀ u, Blk (w.setCell ⟨X, 4, none⟩ u) O c X (.cells #[a, b, c', d, u, f] t (0, 0))) ∧ (∀ u, Blk (w.setCell ⟨X, 5, none⟩ u) O c X (.cells #[a, b, c', d, e, u] t (0, 0))) ∧ ∀ i u cs, c ∈ cs → Step cs w O (w.setCell ⟨X, i, none⟩ u) O :=
  ⟨fun u => h.setCell 3 u, fun u => h.setCell 4 u, fun u => h.setCell 5 u, fun i u cs hc => (Step.refl cs w O).setCell (p := ⟨X, i, none⟩) (.inl (by show O X ∈ cs; rw [h.2]; exact hc)) u⟩
theorem forget_close {w1 w2 : World} {A3 A4 : Option Addr} {p3 p4 : Nat} (h : RwAt w O b d m r) (hs1 : Step [b + 1] w O w1 O) (hs2 : Step [b + 7] w1 O w2 O) (hA : ArAt w1 O b m.a (zNew m.z.cells) m.B m.A (.slice none 0 0) (.slice none 0 0))
    (hob : Blk w2 O b d (.cells #[.int .i64 (r.order : Int), .pointer (some ⟨m.a, 0, none⟩), .map (some m.mb), m.vh, m.vq, .int .i64 (r.rs : Int)] 117 (0, 0)))
    (hm2 : StepAt w2 O (b + 7) m.mb 0 (fun _ _ => none)) (hh : Held w O (b + 5) 5 (.slice A3 0 p3) []) (hq : Held w O (b + 6) 3 (.slice A4 0 p4) []) :
    ∃ m', Step (cols b) w O (((w2.setCell ⟨d, 3, none⟩ (.slice A3 0 p3)).setCell ⟨d, 4, none⟩ (.slice A4 0 p4)).setCell ⟨d, 5, none⟩ (.int .i64 ((r.rs : Int) + 1))).drew O ∧ RwAt (((w2.setCell ⟨d, 3, none⟩ (.slice A3 0 p3)).setCell ⟨d, 4, none⟩ (.slice A4 0 p4)).setCell ⟨d, 5, none⟩ (.int .i64 ((r.rs : Int) + 1))).drew O b d m' r.forget := by
  have b3 := (six_blk hob).1 (.slice A3 0 p3)
  have b4 := (six_blk b3).2.1 (.slice A4 0 p4)
  have b5 := (six_blk b4).2.2.1 (.int .i64 ((r.rs : Int) + 1))
  have s3 : Step [b] w2 O (((w2.setCell ⟨d, 3, none⟩ (.slice A3 0 p3)).setCell ⟨d, 4, none⟩ (.slice A4 0 p4)).setCell ⟨d, 5, none⟩ (.int .i64 ((r.rs : Int) + 1))).drew O :=
    ((((six_blk hob).2.2.2 3 (.slice A3 0 p3) [b] (by simp)).trans ((six_blk b3).2.2.2 4 (.slice A4 0 p4) [b] (by simp))).trans ((six_blk b4).2.2.2 5 (.int .i64 ((r.rs : Int) + 1)) [b] (by simp))).drew
  have b6 : Blk (((w2.setCell ⟨d, 3, none⟩ (.slice A3 0 p3)).setCell ⟨d, 4, none⟩ (.slice A4 0 p4)).setCell ⟨d, 5, none⟩ (.int .i64 ((r.rs : Int) + 1))).drew O b d _ := b5.step ((Step.refl [] _ O).drew) (by simp)
  generalize (((w2.setCell ⟨d, 3, none⟩ (.slice A3 0 p3)).setCell ⟨d, 4, none⟩ (.slice A4 0 p4)).setCell ⟨d, 5, none⟩ (.int .i64 ((r.rs : Int) + 1))).drew = W at *
  have sa : Step [b + 1, b + 7, b] w O W O := ((hs1.mono (ds := [b + 1, b + 7, b]) (by simp)).trans (hs2.mono (ds := [b + 1, b + 7, b]) (by simp))).trans (s3.mono (ds := [b + 1, b + 7, b]) (by simp))
  refine ⟨⟨m.a, m.mb, zNew m.z.cells, m.B, m.A, .slice none 0 0, .slice none 0 0, .slice A3 0 p3, .slice A4 0 p4, m.tb, m.tv⟩, sa.mono (fun c hc => by simp [cols] at hc ⊢; omega), ?_⟩
  have e1 : ((r.forget.rs : Nat) : Int) = (r.rs : Int) + 1 := by show ((r.rs + 1 : Nat) : Int) = _; omega
  exact ⟨by rw [e1]; exact b6, (hA.step hs2 (by simp) (by simp) (by simp) (by simp)).step s3 (by simp) (by simp) (by simp) (by simp), rfl, h.cells, rfl, hh.step sa (by simp), hq.step sa (by simp), hm2.step s3 (by simp), Tabs.zero _ _ _ _ _, (fun i hi => by cases hi), h.ok.forget⟩
set_option maxRecDepth 100000 in
set_option maxHeartbeats 1000000 in
theorem restart_any (h : RwAt w O b d m r) (hrs : r.rs ≤ 1000000000) :
    Calls Try.prog 69 #[.pointer (some ⟨d, 0, none⟩)] w fun x w' => x = .returned (.tuple #[]) ∧ ∃ m', Step (cols b) w O w' O ∧ RwAt w' O b d m' r.forget := by
  obtain ⟨e0, e1, e2, e3, e4, e5⟩ := six_at h.obj.1
  have HC := Lib.hid (At.clear_any h.ar)
  obtain ⟨A3, p3, q3, hh, _⟩ := sl_form h.hist
  obtain ⟨A4, p4, q4, hq, _⟩ := sl_form h.pth
  have H := Lib.hid h
  rw [q3] at e3
  rw [q4] at e4
  clear h
  go_enter Try.func69, Try.ntmps69
  go_wp2_with fail
  refine HC.out.mono ?_
  rintro x w1 ⟨rfl, hs1, ha1⟩
  have HA1 := Lib.hid ha1
  have hob := H.out.obj.step hs1 (by simp)
  have HO1 := Lib.hid hob
  have hm1 := H.out.map.step hs1 (by simp)
  obtain ⟨w2, hrun, hs2, hm2⟩ := hm1.clear 0
  have HS1 := Lib.hid hs1
  obtain ⟨e0, e1, e2, e3, e4, e5⟩ := six_at hob.1
  clear ha1 hs1 hob hm1 HC
  go_wp2_with fail
  have hob2 := HO1.out.step hs2 (by simp)
  have HO2 := Lib.hid hob2
  have HS2 := Lib.hid hs2
  have HM2 := Lib.hid hm2
  obtain ⟨e0, e1, e2, e3, e4, e5⟩ := six_at hob2.1
  have f3 := hob2.free 3
  have f4 := hob2.free 4
  rw [q3] at e3
  rw [q4] at e4
  clear hs2 hm2 hob2 hrun
  have f5 := HO2.out.free 5
  have HF := Lib.hid (forget_close H.out HS1.out HS2.out HA1.out HO2.out HM2.out hh hq)
  clear hh hq
  go_region
  all_goals
    go_wp2_with fail
    first | go_end0 | (simp only [Exit.inBlock, Exit.then]; refine bodyPost_ret (results_none rfl _ _ _) rfl ?_) | refine bodyPost_ret (results_none rfl _ _ _) rfl ?_
    exact ⟨rfl, HF.out⟩
end
end Go.Proofs.Yteacmcckhjabmaa.Cx
