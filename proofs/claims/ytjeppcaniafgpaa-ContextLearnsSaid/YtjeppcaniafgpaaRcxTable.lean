/-
  The reference of layer 18: the contract of Table.
-/
import Derived.Test.YtjeppcaniafgpaaRcxAt
import Derived.RegionTactic
import Derived.BigRegion
import Derived.Laws.ResultCell
set_option linter.unusedVariables false
set_option linter.unusedSimpArgs false
namespace Go.Proofs.Ytjeppcaniafgpaa.Rx
open Go.RowKit Go.Maps
open Fq
open Rc
open Cx (Tl TOk)
/-- The last k bytes. -/
def lastK (h : List UInt8) (k : Nat) : List UInt8 := h.drop (h.length - k)
namespace Rd
def at' (q : Rd) (k : Nat) : Option Tl := if k ≤ q.order ∧ k ≤ q.hist.length then q.T (lastK q.hist k) else none
end Rd
/-- A table, or none: no rows. -/
structure RowsC (w : World) (O : Paint) (c : Nat) (v1 v2 : Value) (t : Option Tl) : Prop where
  ref : RefC w O c v1 v2 (t.getD [])
  ok : TOk (t.getD [])
  isS : ∀ l, t = some l → l ≠ []
  isN : t = none → v1 = .slice none 0 0 ∧ v2 = .slice none 0 0
section
variable {cs : List Nat} {w w' : World} {O O' : Paint} {c d mb : Nat} {D : Dv} {q : Rd} {v1 v2 : Value} {t : Option Tl}
theorem rows_none (w : World) (O : Paint) (c : Nat) : RowsC w O c (.slice none 0 0) (.slice none 0 0) none :=
  ⟨⟨⟨World.ownsRow_nil _ _ _ _, World.ownsRow_nil _ _ _ _⟩, (fun k hk => by simp [Value.ownBlock] at hk), (fun k hk => by simp [Value.ownBlock] at hk)⟩, Cx.tok_nil, (fun l hl => by cases hl), fun _ => ⟨rfl, rfl⟩⟩
theorem RowsC.step (h : RowsC w O c v1 v2 t) (hs : Step cs w O w' O') (hc : c ∉ cs) : RowsC w' O' c v1 v2 t := ⟨h.ref.step hs hc, h.ok, h.isS, h.isN⟩
theorem RowsC.nil0 (h : RowsC w O c v1 v2 t) : t.getD [] = [] → v1 = .slice none 0 0 ∧ v2 = .slice none 0 0 := by
  intro e
  cases ht : t with
  | none => exact h.isN ht
  | some l =>
    rw [ht] at e
    exact absurd e (h.isS l ht)
theorem lastK_data (h : List UInt8) (k : Nat) (hk : k ≤ h.length) : ((⟨h.toArray⟩ : ByteArray).extract (h.length - k) h.length).data.toList = lastK h k := by
  unfold lastK
  simp
  rw [List.take_of_length_le (by simp)]
theorem lastK_size (h : List UInt8) (k : Nat) : ((⟨h.toArray⟩ : ByteArray).extract (h.length - k) h.length).size ≤ h.length := by
  simp [ByteArray.size]
/-- The map is asked. -/
theorem RdAt.look (h : RdAt w O c d mb D q) (hh : q.hist.length ≤ 1000000) (k : Nat) (hk : k ≤ q.hist.length) :
    ∃ A1 p1 A2 p2, (∀ W, Step [] w O W O → (Instr.lookup 46 (.map (some mb)) (.string ((⟨q.hist.toArray⟩ : ByteArray).extract (q.hist.length - k) q.hist.length)) true).run Try.prog W = .ok (.tuple #[.agg #[.slice A1 ((q.T (lastK q.hist k)).getD []).length p1, .slice A2 ((q.T (lastK q.hist k)).getD []).length p2], .bool (q.T (lastK q.hist k)).isSome]) W) ∧ RowsC w O c (.slice A1 ((q.T (lastK q.hist k)).getD []).length p1) (.slice A2 ((q.T (lastK q.hist k)).getD []).length p2) (q.T (lastK q.hist k)) := by
  have hs := Nat.le_trans (lastK_size q.hist k) hh
  have he := lastK_data q.hist k hk
  cases hT : q.T (lastK q.hist k) with
  | none =>
    refine ⟨none, 0, none, 0, fun W hW => ?_, rows_none w O c⟩
    have := (h.map.step hW (by simp)).look_no hs (by rw [he]; exact hT)
    rw [this]
    rfl
  | some l =>
    obtain ⟨v1, v2, k1, k2, k3⟩ := h.map.tells _ l hT
    obtain ⟨A1, p1, A2, p2, rfl, rfl⟩ := RefT.shape k2.ref
    refine ⟨A1, p1, A2, p2, fun W hW => ?_, ⟨k2, k3.1, fun m hm => (by cases hm; exact k3.2), (fun e => by cases e)⟩⟩
    obtain ⟨u1, u2, g1, _⟩ := (h.map.step hW (by simp)).look_yes hs (by rw [he]; exact hT)
    obtain ⟨v, ps, hrun, hv⟩ := (h.map.step hW (by simp)).own.look_ok keyS Try.underlying46 (zeroT W) (zd := .held (.agg #[.slice none 0 0, .slice none 0 0])) (zp := []) rfl (key_of hs)
    rw [he, k1] at hv
    have e : v = .agg #[.slice A1 l.length p1, .slice A2 l.length p2] := by
      unfold tok at hv
      simp at hv
      exact hv.1
    rw [hrun, e, he, h.map.has, hT]
    rfl
set_option maxRecDepth 100000 in
set_option maxHeartbeats 1000000 in
theorem table_dw (h : RdAt w O c d mb D q) (ho : q.order ≤ 16) (hh : q.hist.length ≤ 1000000) (k : Nat) (hk : k ≤ 1000000) :
    Calls Try.prog 24 #[.pointer (some ⟨d, 0, none⟩), .int .i64 (k : Int)] w fun x w' => ∃ v1 v2, x = .returned (.tuple #[.agg #[v1, v2], .bool (q.at' k).isSome]) ∧ RowsC w O c v1 v2 (q.at' k) ∧ Below w.heap.size w w' := by
  obtain ⟨e0, e1, e2, e3, e4⟩ := five_at h.obj.1
  have es : ByteArray.size ⟨q.hist.toArray⟩ = q.hist.length := by simp [ByteArray.size]
  clear e1 e4
  have hd := h.obj.lt
  have H := Lib.hid h
  have g0 : ¬ (k : Int) < 0 := by omega
  by_cases h1 : k ≤ q.order
  · have g1 : ¬ (q.order : Int) < (k : Int) := by omega
    by_cases h2 : k ≤ q.hist.length
    · have g2 : ¬ (q.hist.length : Int) < (k : Int) := by omega
      obtain ⟨A1, p1, A2, p2, hl, hr⟩ := h.look hh k h2
      have hat : q.at' k = q.T (lastK q.hist k) := by unfold Rd.at'; rw [if_pos ⟨h1, h2⟩]
      rw [hat]
      have HR := Lib.hid hr
      have hl1 := fun o1 o2 => hl (((w.alloc o1).alloc o2).drew) (((Step.refl [] w O).alloc o1).alloc o2).drew
      have hl2 := fun o1 => hl ((w.alloc o1).drew) (((Step.refl [] w O).alloc o1)).drew
      obtain ⟨w1, w2⟩ := wr_in (x := (q.hist.length : Int) - (k : Int)) (by omega) (by omega)
      have g3 : 0 ≤ (q.hist.length : Int) - (k : Int) := by omega
      have g4 : ((q.hist.length : Int) - (k : Int)).toNat = q.hist.length - k := by omega
      have g5 : (q.hist.length : Int) - (k : Int) ≤ (q.hist.length : Int) := by omega
      have g6 : q.hist.length - k ≤ q.hist.length := by omega
      clear h hl hr
      go_enter Try.func24, Try.ntmps24
      go_wp2_with fail
      go_region
      all_goals
        go_wp2_with fail
        (try simp only [Exit.inBlock, Exit.then])
        refine bodyPost_ret (v := .tuple #[.agg #[.slice A1 ((q.T (lastK q.hist k)).getD []).length p1, .slice A2 ((q.T (lastK q.hist k)).getD []).length p2], .bool (q.T (lastK q.hist k)).isSome]) (by rw [results_cell_tmp rfl]; go_simp) rfl ?_
        exact ⟨_, _, rfl, HR.out, by (repeat' (first | exact Below.refl _ _ | refine Below.drew ?_ | refine Below.setCell ?_ (by simp) _ | refine Below.alloc ?_ (by simp <;> omega) _))⟩
    · have g2 : (q.hist.length : Int) < (k : Int) := by omega
      have hat : q.at' k = none := by unfold Rd.at'; rw [if_neg (fun e => h2 e.2)]
      rw [hat]
      have HR := Lib.hid (rows_none w O c)
      clear h hat
      go_enter Try.func24, Try.ntmps24
      go_wp2_with fail
      (try simp only [Exit.inBlock, Exit.then])
      refine bodyPost_ret (v := .tuple #[.agg #[.slice none 0 0, .slice none 0 0], .bool false]) (by rw [results_cell_tmp rfl]; go_simp) rfl ?_
      exact ⟨_, _, rfl, HR.out, by (repeat' (first | exact Below.refl _ _ | refine Below.drew ?_ | refine Below.setCell ?_ (by simp) _ | refine Below.alloc ?_ (by simp <;> omega) _))⟩
  · have g1 : (q.order : Int) < (k : Int) := by omega
    have hat : q.at' k = none := by unfold Rd.at'; rw [if_neg (fun e => h1 e.1)]
    rw [hat]
    have HR := Lib.hid (rows_none w O c)
    clear h hat
    go_enter Try.func24, Try.ntmps24
    go_wp2_with fail
    (try simp only [Exit.inBlock, Exit.then])
    refine bodyPost_ret (v := .tuple #[.agg #[.slice none 0 0, .slice none 0 0], .bool false]) (by rw [results_cell_tmp rfl]; go_simp) rfl ?_
    exact ⟨_, _, rfl, HR.out, by (repeat' (first | exact Below.refl _ _ | refine Below.drew ?_ | refine Below.setCell ?_ (by simp) _ | refine Below.alloc ?_ (by simp <;> omega) _))⟩
theorem table_neg (h : RdAt w O c d mb D q) (k : Int) (hk : k < 0) :
    Calls Try.prog 24 #[.pointer (some ⟨d, 0, none⟩), .int .i64 k] w fun x w' => ∃ v1 v2, x = .returned (.tuple #[.agg #[v1, v2], .bool false]) ∧ RowsC w O c v1 v2 none ∧ Below w.heap.size w w' := by
  have HR := Lib.hid (rows_none w O c)
  clear h
  go_enter Try.func24, Try.ntmps24
  go_wp2_with fail
  (try simp only [Exit.inBlock, Exit.then])
  refine bodyPost_ret (v := .tuple #[.agg #[.slice none 0 0, .slice none 0 0], .bool false]) (by rw [results_cell_tmp rfl]; go_simp) rfl ?_
  exact ⟨_, _, rfl, HR.out, by (repeat' (first | exact Below.refl _ _ | refine Below.drew ?_ | refine Below.setCell ?_ (by simp) _ | refine Below.alloc ?_ (by simp <;> omega) _))⟩
end
end Go.Proofs.Ytjeppcaniafgpaa.Rx
