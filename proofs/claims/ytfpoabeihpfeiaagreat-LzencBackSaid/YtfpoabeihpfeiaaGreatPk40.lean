/-
  Layer 9: contracts of the document's slot and base.
  The document's model of layer 10: what it is in memory ('DocAt'); powers of two; a bit by a probability's name.
  The document's model of layer 10: powers of two; a bit by a probability's name.
  The document's model of layer 10: a tree, bit by bit.
  The document's model of layer 10: what its methods hold on their way (the encoder in a variable, the result's place).
  The document's model of layer 10: the walk of a tree.
-/
import Derived.Test.YtfpoabeihpfeiaaGreatPk03
import Derived.Test.YtfpoabeihpfeiaaGreatPk04
import Derived.Test.YtfpoabeihpfeiaaGreatPk11
import Derived.Test.YtfpoabeihpfeiaaGreatPk13
import Derived.Test.YtfpoabeihpfeiaaGreatPk14
import Derived.Test.YtfpoabeihpfeiaaGreatPk27
import Derived.Maps.OwnSet
import Derived.DeepKeys4
import Derived.StillTailTactics
import Derived.Deep.QuietTactic
import Derived.Deep.CutBlock
import Derived.Deep.DeepCutAuto
import Derived.BigQuiet
import Derived.Deep.RegionHeld3
set_option maxRecDepth 100000
set_option maxHeartbeats 16000000
set_option linter.unusedVariables false
set_option linter.unusedSimpArgs false
open Go.Lib (hid)
section
namespace Go.Proofs.YtfpoabeihpfeiaaGreat.St
open Go.RowKit
theorem u64_in {n : Int} (h0 : 0 <= n) (h1 : n < 18446744073709551616) : IntKind.u64.wrap n = n := by rw [IntKind.wrap_u64]; omega
theorem refslot_any (d : Nat) (h : d < 4294967296) (w : World) : Calls Tryz.prog 60 #[.int .u64 d] w fun x w' => x = .returned (.int .i64 (slot d : Int)) /\ ∃ n, w' = w.drewN n := by
 by_cases h4 : d < 4
 · have e : slot d = d := by unfold slot; rw [if_pos h4]
   rw [e]
   have c1 : (d : Int) < 4 := by omega
   clear h
   go_enter Tryz.func60, Tryz.ntmps60
   go_wp2
   go_ret
   exact ⟨ret_i (by omega), 0, rfl⟩
 · have c1 : ¬ (d : Int) < 4 := by omega
   obtain ⟨l1, l2, l3⟩ := log_spec (d := d) (by omega)
   have l4 : d.log2 < 32 := (Nat.log2_lt (by omega)).2 (by omega)
   have HS : Hid (slot d = if d < 2 ^ d.log2 + 2 ^ (d.log2 - 1) then 2 * d.log2 else 2 * d.log2 + 1) := hid (by unfold slot; rw [if_neg h4])
   have HH := hid h
   have HL := hid (⟨l1, l2, l3⟩ : 2 ^ d.log2 <= d /\ d < 2 * 2 ^ d.log2 /\ 2 <= d.log2)
   generalize slot d = sl at *
   generalize d.log2 = n at *
   clear h l1 l2 h4
   go_enter Tryz.func60, Tryz.ntmps60
   go_wp2
   go_loopw [3, 4] (fun a b wr => ∃ k p m : Nat, k <= n /\ p = 2 ^ k /\ a = .int .i64 k /\ b = .int .u64 p /\ wr = w.drewN m) (fun a _ _ => n - (intOf a).toNat)
   case atStart => exact ⟨0, 1, 0, by omega, rfl, rfl, rfl, rfl⟩
   case round =>
    obtain ⟨k, p, m, hk, hp, rfl, rfl, rfl⟩ := hrel
    have HP := hid hp
    have hple : p <= d := by
     have := Nat.pow_le_pow_right (n := 2) (by omega) hk
     have := HL.out.1
     omega
    have hw1 : IntKind.u64.wrap (2 * (p : Int)) = 2 * (p : Int) := u64_in (by omega) (by have := HH.out; omega)
    have hw2 : IntKind.u64.wrap ((p : Int) * 2) = (p : Int) * 2 := u64_in (by omega) (by have := HH.out; omega)
    clear hp
    by_cases hlt : k < n
    · have hle : 2 * (p : Int) <= (d : Int) := by
       have h1 := Nat.pow_le_pow_right (n := 2) (by omega) (show k + 1 <= n by omega)
       rw [Nat.pow_succ, <- HP.out] at h1
       have := HL.out.1
       omega
      have HP2 : Hid (2 * p = 2 ^ (k + 1)) := hid (by rw [Nat.pow_succ, <- HP.out]; omega)
      clear HP
      go_wp2
      go_roundw
      case rel => exact ⟨k + 1, 2 * p, _, by omega, HP2.out, by go_num, by go_num, rfl⟩
      case measure => simp [intOf]; omega
    · obtain rfl : k = n := by omega
      have hle : ¬ 2 * (p : Int) <= (d : Int) := by have := HL.out.2.1; rw [<- HP.out] at this; omega
      have hp2 : 2 ^ (k - 1) = p / 2 := by
       have := pow_split (n := k) (by have := HL.out.2.2; omega)
       rw [HP.out]; omega
      have hw4 : IntKind.u64.wrap ((p : Int) / 2) = (p : Int) / 2 := u64_in (by omega) (by have := HH.out; omega)
      have hw3 : IntKind.u64.wrap ((p : Int) + (p : Int) / 2) = (p : Int) + (p : Int) / 2 := u64_in (by omega) (by have := HH.out; omega)
      by_cases hs : (p : Int) + (p : Int) / 2 <= (d : Int)
      · have HE : Hid (sl = 2 * k + 1) := hid (by rw [HS.out, <- HP.out, hp2, if_neg (by omega)])
        clear hp2 HP HS HL HH
        go_wp2
        go_ret
        exact ⟨ret_i (by rw [HE.out]; omega), _, rfl⟩
      · have HE : Hid (sl = 2 * k) := hid (by rw [HS.out, <- HP.out, hp2, if_pos (by omega)])
        clear hp2 HP HS HL HH
        go_wp2
        go_ret
        exact ⟨ret_i (by rw [HE.out]; omega), _, rfl⟩
theorem refbase_any (k : Nat) (h : k < 64) (w : World) : Calls Tryz.prog 61 #[.int .i64 k] w fun x w' => x = .returned (.tuple #[.int .u64 (base k : Int), .int .i64 (more k : Int)]) /\ ∃ n, w' = w.drewN n := by
 by_cases h4 : k < 4
 · have e : base k = k := by unfold base; rw [if_pos h4]
   have e' : more k = 0 := by unfold more; rw [if_pos h4]
   rw [e, e']
   have c1 : (k : Int) < 4 := by omega
   go_enter Tryz.func61, Tryz.ntmps61
   go_wp2
   go_ret2
   exact ⟨rfl, 0, rfl⟩
 · have c1 : ¬ (k : Int) < 4 := by omega
   have HB : Hid (base k = (2 + k % 2) * 2 ^ (k / 2 - 1)) := hid (by unfold base; rw [if_neg h4])
   have HM : Hid ((k : Int) / 2 - 1 = (more k : Int)) := hid (by unfold more; rw [if_neg h4]; omega)
   generalize base k = bs at *
   generalize more k = mo at *
   obtain ⟨q, hq⟩ : ∃ q, q = k / 2 := ⟨_, rfl⟩
   have hqi : (k : Int) / 2 = (q : Int) := by omega
   have hq2 : 2 <= q := by omega
   have hq3 : q <= 31 := by omega
   rw [<- hq] at HB
   clear hq
   go_enter Tryz.func61, Tryz.ntmps61
   go_wp2
   go_loopw [4, 5] (fun b a wr => ∃ i p m : Nat, i <= q /\ p = 2 ^ i /\ a = .int .i64 i /\ b = .int .u64 p /\ wr = w.drewN m) (fun _ a _ => q - (intOf a).toNat)
   case atStart => exact ⟨0, 1, 0, by omega, rfl, rfl, rfl, rfl⟩
   case round =>
    obtain ⟨i, p, m, hi, hp, rfl, rfl, rfl⟩ := hrel
    have hple : p <= 2147483648 := by
     have := Nat.pow_le_pow_right (n := 2) (by omega) (show i <= 31 by omega)
     rw [hp]; omega
    have HP := hid hp
    have hw2 : IntKind.u64.wrap ((p : Int) * 2) = (p : Int) * 2 := u64_in (by omega) (by omega)
    have hw4 : IntKind.u64.wrap ((p : Int) / 2) = (p : Int) / 2 := u64_in (by omega) (by omega)
    have hw3 : IntKind.u64.wrap ((p : Int) + (p : Int) / 2) = (p : Int) + (p : Int) / 2 := u64_in (by omega) (by omega)
    clear hp hple
    by_cases hlt : i < q
    · have HP2 : Hid (2 * p = 2 ^ (i + 1)) := hid (by rw [Nat.pow_succ, <- HP.out]; omega)
      have hlt' : (i : Int) < (q : Int) := by omega
      clear HP
      go_wp2
      go_roundw
      case rel => exact ⟨i + 1, 2 * p, _, by omega, HP2.out, by go_num, by go_num, rfl⟩
      case measure => simp [intOf]; omega
    · obtain rfl : i = q := by omega
      have hlt' : ¬ (i : Int) < (i : Int) := by omega
      have hp2 : 2 ^ (i - 1) * 2 = p := by
       have := pow_split (n := i) (by omega)
       rw [HP.out]; omega
      by_cases hs : (k : Int) % 2 = 1
      · have hs1 : (((k : Int) % 2) == 1) = true := by simpa using hs
        have HE : Hid ((p : Int) + (p : Int) / 2 = (bs : Int)) := hid (by rw [HB.out, show k % 2 = 1 by omega]; omega)
        clear hp2 HP HB
        go_wp2
        go_ret2
        exact ⟨by rw [<- HE.out, <- HM.out, hqi]; rfl, _, rfl⟩
      · have hs1 : (((k : Int) % 2) == 1) = false := by simpa using hs
        have HE : Hid ((p : Int) = (bs : Int)) := hid (by rw [HB.out, show k % 2 = 0 by omega]; omega)
        clear hp2 HP HB
        go_wp2
        go_ret2
        exact ⟨by rw [<- HE.out, <- HM.out, hqi]; rfl, _, rfl⟩
end Go.Proofs.YtfpoabeihpfeiaaGreat.St
end
section
namespace Go.Proofs.YtfpoabeihpfeiaaGreat.Dc
open Go.RowKit Go.Maps
open Rc Mo
open Pk (Rp)
abbrev Du := DataW Unit
theorem laidOut : laidOutB Tryz.prog = true := by kernel_rfl
theorem row4 : (50 : TypeId) < Tryz.prog.types.size := of_decide_eq_true (by kernel_rfl)
theorem keyAt4 : Tryz.prog.keyTypeAt 2 50 = true := by kernel_rfl
theorem law4 : Keyed Tryz.prog 50 := Keyed.of_law (deep_law_laid laidOut (m := 2) (by omega) row4 keyAt4 (by rw [Tryz.underlying50]))
theorem cells4 : Tryz.prog.cellsOf 50 = 4 := by kernel_rfl
theorem cells1 : Tryz.prog.cellsOf 3 = 1 := by kernel_rfl
theorem keyType4 : Tryz.prog.keyType 50 = true := by kernel_rfl
theorem wfi {x : Nat} (h : x < 1000000) : (Lit.int .i64 x).wf = true := by
 have h1 : (IntKind.i64.min : Int) <= x := by rw [show IntKind.i64.min = -9223372036854775808 from rfl]; omega
 simp [Lit.wf, h1]
 omega
def lits4 (a b c : Nat) : List Lit := [.int .i64 a, .int .i64 b, .int .i64 c, .int .i64 0]
def val4 (a b c : Nat) : Value := .agg #[.int .i64 a, .int .i64 b, .int .i64 c, .int .i64 0]
def key4 (a b c : Nat) : Lit := .string (keyBytes (lits4 a b c))
theorem key_lits4 {a b c : Nat} (ha : a < 1000000) (hb : b < 1000000) (hc : c < 1000000) (n : Nat) :
  Tryz.prog.keyLits (n + 1 + 1) 50 [.int .i64 a, .int .i64 b, .int .i64 c, .int .i64 0] = some (lits4 a b c) := by
 have h0 : (Lit.int .i64 0).wf = true := by decide
 simp [Program.keyLits, Tryz.underlying50, Tryz.underlying3, cells4, cells1, wfi ha, wfi hb, wfi hc, h0, List.range_succ, lits4]
theorem key_of4 {a b c : Nat} (ha : a < 1000000) (hb : b < 1000000) (hc : c < 1000000) : keyOf Tryz.prog 50 (val4 a b c) = some (key4 a b c) := by
 unfold keyOf val4 key4
 obtain ⟨n, hn⟩ : ∃ n, Tryz.prog.types.size = n + 1 := ⟨Tryz.prog.types.size - 1, by have h : (50 : Nat) < Tryz.prog.types.size := row4; omega⟩
 have hl := key_lits4 ha hb hc n
 rw [hn]
 generalize n + 1 + 1 = m at *
 have hf : (Value.agg #[.int .i64 a, .int .i64 b, .int .i64 c, .int .i64 0]).formed Tryz.prog 50 = true := by simp [Value.formed, Tryz.underlying50, cells4]
 rw [Tryz.underlying50, keyType4, hf]
 simp [Value.cells, hl]
theorem key4_inj {a b c a' b' c' : Nat} (ha : a < 1000000) (hb : b < 1000000) (hc : c < 1000000) (ha' : a' < 1000000) (hb' : b' < 1000000) (hc' : c' < 1000000) (h : key4 a b c = key4 a' b' c') : a' = a /\ b' = b /\ c' = c := by
 have h1 := keyLits_inj (key_lits4 ha hb hc 0) (key_lits4 ha' hb' hc' 0) (by unfold key4 at h; simpa using h)
 unfold lits4 at h1
 simp at h1
 omega
def Tells4 (D : Du) (Q : Qs) : Prop := ∀ a b c, a < 1000000 -> b < 1000000 -> c < 1000000 -> ∃ x : Nat, D.atKey (key4 a b c) (.lit (.int .u64 0)) = .lit (.int .u64 x) /\ Q a b c = if x = 0 then 1024 else x
theorem tells4_new : Tells4 (.map []) (fun _ _ _ => 1024) := fun a b c _ _ _ => ⟨0, rfl, rfl⟩
theorem tells4_put {D : Du} {Q : Qs} (hm : IsMap D) (h : Tells4 D Q) {a b c x : Nat} (ha : a < 1000000) (hb : b < 1000000) (hc : c < 1000000) (hx : 0 < x) : Tells4 (D.put (key4 a b c) (.lit (.int .u64 x))) (qone Q a b c x) := by
 intro a' b' c' ha' hb' hc'
 have hk : WideAt.IsKeyLit (key4 a b c) := law4.key (key_of4 ha hb hc)
 unfold qone
 by_cases e : a' = a /\ b' = b /\ c' = c
 · obtain ⟨rfl, rfl, rfl⟩ := e
   refine ⟨x, ?_, ?_⟩
   · rw [Maps.atKey_put_same hm hk]
   · rw [if_pos ⟨rfl, rfl, rfl⟩, if_neg (by omega)]
 · have hne : key4 a' b' c' ≠ key4 a b c := fun h => e (by obtain ⟨e1, e2, e3⟩ := key4_inj ha' hb' hc' ha hb hc h; omega)
   rw [if_neg e, Maps.atKey_put_other (fun h => hne (by first | exact h | exact h.symm))]
   exact h a' b' c' ha' hb' hc'
theorem mod_fresh (O : Paint) (n c d : Nat) : ∃ f, f ≠ c /\ f ≠ d /\ ∀ k, k < n -> O k ≠ f := fresh O n c d
theorem step_drop {cs : List Nat} {f : Nat} {w w' : World} {O O' : Paint} (h : Step (f :: cs) w O w' O') (hn : ∀ k, k < w.heap.size -> O k ≠ f) : Step cs w O w' O' :=
 ⟨h.frame.mono (fun k hk ho => by
  rcases List.mem_cons.1 ho with e | e
  · exact absurd e (hn k hk)
  · exact e), h.ext⟩
structure DocAt (w : World) (O : Paint) (c d B N : Nat) (m : Ms) (Q : Qs) : Prop where
 blk : Blk w O c d (.cells #[.int .i64 m.lc, .int .i64 m.lp, .int .i64 m.pb, .map (some B), .int .i64 m.st, .int .i64 m.r.a, .int .i64 m.r.b, .int .i64 m.r.c, .int .i64 m.r.d, .string ⟨m.l.toArray⟩] 55 (0, 0))
 own : ∃ D : Du, w.ownsMap Tryz.prog 50 (plainElem Tryz.prog 44) B N D /\ Tells4 D Q
 ownC : O B = c
 q : QOk Q
structure EncV (w : World) (O : Paint) (c : Nat) (v : Value) (e : Enc) : Prop where
 row : Row w v (be (e.turns + 4) e.low)
 fine : Fine e
 paint : ∀ k, v.ownBlock = some k -> O k = c
section
variable {cs : List Nat} {w w' : World} {O O' : Paint} {c d B N cd ce : Nat} {m : Ms} {Q : Qs} {v v' : Value} {e : Enc}
theorem DocAt.step (h : DocAt w O c d B N m Q) (hs : Step cs w O w' O') (hc : c ∉ cs) : DocAt w' O' c d B N m Q := by
 obtain ⟨D, hD, hT⟩ := h.own
 have hl := hD.lt
 obtain ⟨es, clock, hb, hF, h1, h2⟩ := hD
 exact ⟨h.blk.step hs hc, ⟨D, ⟨es, clock, (hs.block hl (by rw [h.ownC]; exact hc)).trans hb, hF, h1, h2⟩, hT⟩, (hs.ext B hl).trans h.ownC, h.q⟩
theorem DocAt.mono (h : DocAt w O c d B N m Q) {N' : Nat} (hN : N <= N') : DocAt w O c d B N' m Q := by
 obtain ⟨D, hD, hT⟩ := h.own
 exact ⟨h.blk, ⟨D, hD.mono hN, hT⟩, h.ownC, h.q⟩
theorem DocAt.drewN (h : DocAt w O c d B N m Q) (n : Nat) : DocAt (w.drewN n) O c d B N m Q := h.step ((Step.refl [] w O).drewN n) (by simp)
theorem EncV.step (h : EncV w O c v e) (hs : Step cs w O w' O') (hc : c ∉ cs) : EncV w' O' c v e :=
 ⟨ownsRow_frame h.row hs.frame (fun k hk ho => hc (by rw [h.paint k hk] at ho; exact ho)), h.fine, fun k hk => (hs.ext k (ownsRow_lt h.row k hk)).trans (h.paint k hk)⟩
theorem EncV.new {e' : Enc} (h : EncV w O c v e) (hr : Row w' v' (be (e'.turns + 4) e'.low)) (hf : Fine e') (hm : Moved w v v') : EncV w' (Step.paint O w c) c v' e' := by
 refine ⟨hr, hf, fun k hk => ?_⟩
 rcases hm with e1 | e1
 · rw [e1] at hk
   rw [Step.paint_old (ownsRow_lt h.row k hk)]; exact h.paint k hk
 · exact Step.paint_new (e1 k hk)
theorem ten {w : World} {X : Nat} {a b c d e f g h i j : Value} {t : TypeId} (hh : w.heap[X]? = some (.cells #[a, b, c, d, e, f, g, h, i, j] t (0, 0))) :
  w.cell? ⟨X, 0, none⟩ = some a /\ w.cell? ⟨X, 1, none⟩ = some b /\ w.cell? ⟨X, 2, none⟩ = some c /\ w.cell? ⟨X, 3, none⟩ = some d /\ w.cell? ⟨X, 4, none⟩ = some e /\ w.cell? ⟨X, 5, none⟩ = some f /\ w.cell? ⟨X, 6, none⟩ = some g /\ w.cell? ⟨X, 7, none⟩ = some h /\ w.cell? ⟨X, 8, none⟩ = some i /\ w.cell? ⟨X, 9, none⟩ = some j := by
 refine ⟨?_, ?_, ?_, ?_, ?_, ?_, ?_, ?_, ?_, ?_⟩ <;> simp [World.cell?, hh]
theorem zeroU (w : World) : (zeroValue 44).run Tryz.prog w = .ok (.int .u64 0) w := by kernel_rfl
theorem DocAt.look (h : DocAt w O c d B N m Q) {a b x : Nat} (ha : a < 1000000) (hb : b < 1000000) (hx : x < 1000000) :
  ∃ y : Nat, (∀ n, (Instr.lookup 53 (.map (some B)) (val4 a b x) false).run Tryz.prog (w.drewN n) = .ok (.int .u64 y) (w.drewN n)) /\ Q a b x = if y = 0 then 1024 else y := by
 obtain ⟨D, hD, hT⟩ := h.own
 obtain ⟨y, h1, h2⟩ := hT a b x ha hb hx
 refine ⟨y, fun n => ?_, h2⟩
 have hl := hD.lt
 obtain ⟨es, clock, hb', hF, g1, g2⟩ := hD
 have hDn : (w.drewN n).ownsMap Tryz.prog 50 (plainElem Tryz.prog 44) B N D := ⟨es, clock, (((Step.refl [] w O).drewN n).block hl (by simp)).trans hb', hF, g1, g2⟩
 obtain ⟨z, h3, h4, h5⟩ := hDn.lookup_int law4 Tryz.underlying53 Tryz.underlying44 (zeroU _) (key_of4 ha hb hx)
 rw [h1] at h4
 simp only [DataW.lit.injEq, Lit.int.injEq, true_and] at h4
 subst h4
 exact h3
theorem DocAt.mapped (h : DocAt w O c d B N m Q) {D : Du} {a b x y : Nat} (ha : a < 1000000) (hb : b < 1000000) (hx : x < 1000000) (hy : 31 <= y /\ y <= 2017) (hD : IsMap D) (hT : Tells4 D Q)
  (hown : w'.ownsMap Tryz.prog 50 (plainElem Tryz.prog 44) B (N + 1) (D.put (key4 a b x) (.lit (.int .u64 y)))) (hg : w.grownBy w' (some B)) (hne : d ≠ B) :
  DocAt w' O c d B (N + 1) m (qone Q a b x y) /\ Step [c] w O w' O := by
 have hst : Step [c] w O w' O := (Step.refl [c] w O).grown hg (fun k hk => by cases hk; exact .inl (by simp [h.ownC]))
 exact ⟨⟨⟨(hg.block d h.blk.lt (by simpa using hne)).trans h.blk.1, h.blk.2⟩, ⟨_, hown, tells4_put hD hT ha hb hx (by omega)⟩, h.ownC, h.q.one a b x hy⟩, hst⟩
theorem DocAt.ne (h : DocAt w O c d B N m Q) : d ≠ B := by
 obtain ⟨D, hD, _⟩ := h.own
 obtain ⟨es, clock, hb, _⟩ := hD
 rintro rfl
 rw [h.blk.1] at hb
 cases hb
end
def DocTo (w : World) (O : Paint) (cd ce d B N : Nat) (m : Ms) (s : Es) (x : Ending) (w' : World) : Prop :=
 ∃ v' O', x = .returned (.agg #[v', .int .u64 s.e.size]) /\ Step [cd] w O w' O' /\ DocAt w' O' cd d B N m s.q /\ EncV w' O' ce v' s.e
end Go.Proofs.YtfpoabeihpfeiaaGreat.Dc
end
section
namespace Go.Proofs.YtfpoabeihpfeiaaGreat.Dc
open Go.RowKit Go.Maps
open Rc Mo
open Pk (Rp)
theorem pow_le (n : Nat) (hn : n <= 40) : 2 ^ n <= 1099511627776 := Nat.pow_le_pow_right (n := 2) (by omega) hn
theorem power_any (n : Nat) (hn : n <= 40) (w : World) : Calls Tryz.prog 58 #[.int .i64 n] w fun x w' => x = .returned (.int .i64 ((2 ^ n : Nat) : Int)) /\ w = w' := by
 go_enter Tryz.func58, Tryz.ntmps58
 go_wp2_with fail
 go_loopw [3, 4] (fun p i wr => ∃ k : Nat, k <= n /\ i = .int .i64 k /\ p = .int .i64 ((2 ^ k : Nat) : Int) /\ wr = w) (fun _ i _ => n - (intOf i).toNat)
 case atStart => exact ⟨0, by omega, rfl, rfl, rfl⟩
 case round =>
  obtain ⟨k, hk, rfl, rfl, rfl⟩ := hrel
  by_cases hlt : k < n
  · have h1 := pow_le (k + 1) (by omega)
    have HP := hid (Nat.pow_succ 2 k)
    rw [HP.out] at h1
    generalize 2 ^ k = q at *
    have hw : IntKind.i64.wrap ((q : Int) * 2) = (q : Int) * 2 := by rw [IntKind.wrap_i64]; omega
    go_wp2
    go_roundw
    case rel => exact ⟨k + 1, by omega, by go_num, by rw [HP.out]; simp, by first | rfl | trivial⟩
    case measure => simp [intOf]; omega
  · obtain rfl : k = n := by omega
    generalize hq : 2 ^ k = q at *
    have HQ := hid hq
    clear hq
    go_wp2
    go_ret
    exact ⟨by rw [HQ.out]; rfl, by first | rfl | trivial⟩
section
variable {w : World} {O : Paint} {d B N cd ce : Nat} {m : Ms} {Q : Qs} {v : Value} {e : Enc}
theorem dbit_any (h : DocAt w O cd d B N m Q) (he : EncV w O ce v e) (hne : cd ≠ ce) (ht : e.turns <= 900000) {a b c x : Nat} (ha : a < 1000000) (hb : b < 1000000) (hc : c < 1000000) (hx : x <= 1) (hN : N <= 1000000000) :
  Calls Tryz.prog 35 #[.pointer (some ⟨d, 0, none⟩), .agg #[v, .int .u64 e.size], .agg #[.int .i64 a, .int .i64 b, .int .i64 c, .int .i64 0], .int .i64 x] w (DocTo w O cd ce d B (N + 1) m ((⟨e, Q⟩ : Es).one a b c x)) := by
 obtain ⟨f, hf1, hf2, hfO⟩ := mod_fresh O w.heap.size cd ce
 have hb1 : Below w.heap.size w (((w.alloc (.cells #[v, .int .u64 e.size] 46)).alloc (.cells #[.int .i64 a, .int .i64 b, .int .i64 c, .int .i64 0] 50)).alloc (.cells #[.slice none 0 0, .int .u64 0] 46)) :=
  (((Below.refl _ _).alloc (Nat.le_refl _) _).alloc (by simp) _).alloc (by simp; omega) _
 obtain ⟨hX, hY, hZ, _, _⟩ := Pk.three_alloc w (.cells #[v, .int .u64 e.size] 46) (.cells #[.int .i64 a, .int .i64 b, .int .i64 c, .int .i64 0] 50) (.cells #[.slice none 0 0, .int .u64 0] 46)
 have hs1 := Step.of_below hb1 O f
 have HD1 := hid (h.step hs1 (by simp))
 have HE1 := hid (he.step hs1 (by simp))
 have HS1 := hid hs1
 have HFO := hid hfO
 have bX : Blk _ (Step.paint O w f) f w.heap.size _ := ⟨hX, Step.paint_new (Nat.le_refl _)⟩
 have bY : Blk _ (Step.paint O w f) f (w.heap.size + 1) _ := ⟨hY, Step.paint_new (by omega)⟩
 have bZ : Blk _ (Step.paint O w f) f (w.heap.size + 1 + 1) _ := ⟨hZ, Step.paint_new (by omega)⟩
 have BX := hid bX
 have BY := hid bY
 have BZ := hid bZ
 clear hb1 hs1 bX bY bZ hX hY hZ h he hfO
 go_enter Tryz.func35, Tryz.ntmps35
 go_upto_region 1 with (fail)
 generalize (((w.alloc (.cells #[v, .int .u64 e.size] 46)).alloc (.cells #[.int .i64 a, .int .i64 b, .int .i64 c, .int .i64 0] 50)).alloc (.cells #[.slice none 0 0, .int .u64 0] 46)) = W1 at *
 generalize Step.paint O w f = O1 at *
 generalize hXe : w.heap.size = X at *
 have HXE := hid hXe
 clear hXe
 obtain ⟨y, hy, hQ⟩ := HD1.out.look ha hb hc
 have HQ := hid hQ
 have HQB := hid (HD1.out.q a b c)
 obtain ⟨c0, c1, c2, c3, c4, c5, c6, c7, c8, c9⟩ := ten HD1.out.blk.1
 obtain ⟨n0, n1, n2, n3⟩ := (Pk.four BY.out.1).1
 have hLK : ∀ n, (Instr.lookup 53 (.map (some B)) (.agg #[.int .i64 a, .int .i64 b, .int .i64 c, .int .i64 0]) false).run Tryz.prog (W1.drewN n) = .ok (.int .u64 y) (W1.drewN n) := hy
 have hL1 := hLK 1
 clear hQ
 go_quiet (fail)
 clear hLK hL1 hy c0 c1 c2 c3 c4 c5 c6 c7 c8 c9 n0 n1 n2 n3
 have HD2 := hid (HD1.out.drewN nq)
 have HE2 := hid (HE1.out.step ((Step.refl [] W1 O1).drewN nq) (by simp))
 have HS2 := hid (HS1.out.drewN nq)
 have BX2 := hid (BX.out.step ((Step.refl [] W1 O1).drewN nq) (by simp))
 have BY2 := hid (BY.out.step ((Step.refl [] W1 O1).drewN nq) (by simp))
 have BZ2 := hid (BZ.out.step ((Step.refl [] W1 O1).drewN nq) (by simp))
 clear HD1 HE1 HS1 BX BY BZ
 generalize W1.drewN nq = W2 at *
 go_upto_if 17 with (fail)
 go_cut [9] (fun p wc => p = .int .u64 (Q a b c : Int) /\ wc = W2)
 case first =>
  by_cases h0 : y = 0
  · subst h0
    as_aux_lemma =>
    go_wp2_with fail
    go_meet
    exact ⟨by rw [HQ.out]; rfl, rfl⟩
  · as_aux_lemma =>
    have h1 : ((y : Int) == 0) = false := by simp; omega
    go_wp2_with fail
    go_meet
    exact ⟨by rw [HQ.out, if_neg h0], rfl⟩
 case rest =>
  obtain ⟨rfl, rfl⟩ := hcut
  obtain ⟨c0, c1, c2, c3, c4, c5, c6, c7, c8, c9⟩ := ten HD2.out.blk.1
  obtain ⟨n0, n1, n2, n3⟩ := (Pk.four BY2.out.1).1
  obtain ⟨x0, x1⟩ := two BX2.out.1
  go_upto_region 4 with (fail)
  have hdr := (Step.refl [] wc O1).drew
  have HD3 := hid (HD2.out.step hdr (by simp))
  have HE3 := hid (HE2.out.step hdr (by simp))
  have HS3 := hid (HS2.out.trans hdr)
  have BX3 := hid (BX2.out.step hdr (by simp))
  have BY3 := hid (BY2.out.step hdr (by simp))
  have BZ3 := hid (BZ2.out.step hdr (by simp))
  clear hdr HD2 HE2 HS2 BX2 BZ2 
  obtain ⟨q1, q2⟩ := HQB.out
  have HOK := hid (Es.Ok.one (s := ⟨e, Q⟩) ⟨HE3.out.fine, HD3.out.q⟩ a b c x)
  have HLN := hid (learn_in q1 q2 (b := x))
  have HB := hid (bitb_any HE3.out.row HE3.out.fine (by omega) (Q a b c) x q1 q2 hx)
  have hwf : (Lit.int .u64 ((learn (Q a b c) x : Nat) : Int)).wf = true := by
   have := HLN.out
   have h1 : (IntKind.u64.min : Int) <= ((learn (Q a b c) x : Nat) : Int) := by rw [show IntKind.u64.min = 0 from rfl]; omega
   have h2 : ((learn (Q a b c) x : Nat) : Int) <= IntKind.u64.max := by rw [show IntKind.u64.max = 18446744073709551615 from rfl]; omega
   simp [Lit.wf, h1, h2]
  have HWF := hid hwf
  have HC : Hid (∀ W O' l, Step l wc.drew O1 W O' -> cd ∉ l -> f ∉ l -> W.cell? ⟨d, 3, none⟩ = some (.map (some B)) /\ (W.cell? ⟨X + 1, 0, none⟩ = some (.int .i64 a) /\ W.cell? ⟨X + 1, 1, none⟩ = some (.int .i64 b) /\ W.cell? ⟨X + 1, 2, none⟩ = some (.int .i64 c) /\ W.cell? ⟨X + 1, 3, none⟩ = some (.int .i64 0))) := hid fun W O' l hs h1 h2 => ⟨(ten (HD3.out.blk.step hs h1).1).2.2.2.1, (Pk.four (BY3.out.step hs h2).1).1⟩
  clear hwf c0 c1 c2 c3 c4 c5 c6 c7 c8 c9 n0 n1 n2 n3 x0 x1
  have y0 : wc.drew.cell? ⟨X, 0, none⟩ = some v := (two BX3.out.1).1
  have y1 : wc.drew.cell? ⟨X, 1, none⟩ = some (.int .u64 e.size) := (two BX3.out.1).2.1
  refine wp_region_held_drew (S := fun W => W.cell? ⟨d, 3, none⟩ = some (.map (some B)) /\ (W.cell? ⟨X + 1, 0, none⟩ = some (.int .i64 a) /\ W.cell? ⟨X + 1, 1, none⟩ = some (.int .i64 b) /\ W.cell? ⟨X + 1, 2, none⟩ = some (.int .i64 c) /\ W.cell? ⟨X + 1, 3, none⟩ = some (.int .i64 0))) (by kernel_rfl) (HC.out _ _ [] (Step.refl [] _ _) (by simp) (by simp)) (fun hHeld => ?_)
  refine Tail.Lst.mk [0, 1, 2, 3, 4, 6, 7] ?_
  iterate 7 (refine Tail.Lst.takeH rfl (v := ?_) (Or.inl ⟨by rfl, ?_⟩) ?_; rotate_left; (next => intro w hSw; (try dsimp only at hSw); go_simp; (try with_reducible rfl)); simp only [Act.put, List.getElem_toArray, List.getElem_cons_succ, List.getElem_cons_zero, List.setIfInBounds_toArray, List.set])
  refine Tail.Lst.nil ?_
  refine wpAnyH_ready (rs := [5]) (by kernel_rfl) (by simp) ?_
  refine AllReadyH.cons rfl (fun K hK => ?_) AllReadyH.nil
  go_simp
  refine hK.out _ _ (HC.out _ _ [] (Step.refl [] _ _) (by simp) (by simp)) (fun hHeld => ?_)
  clear hK K
  try simp only [Act.put]
  try simp only [List.setIfInBounds_toArray]
  try simp only [List.set]
  refine wpAnyH_ready (rs := [8]) (by kernel_rfl) (by simp) ?_
  refine AllReadyH.cons rfl (fun K hK => ?_) AllReadyH.nil
  go_simp
  go_at_call 57
  (with_reducible refine HB.out.mono ?_)
  rintro z w4 ⟨v', rfl, hr, hb4, hm⟩
  obtain ⟨g4, cap4, hv4⟩ := hr.form (by rw [be_length]; omega)
  rw [be_length] at hv4
  subst hv4
  have hs4 := Step.of_below hb4 O1 ce
  refine hK.out _ _ (HC.out _ _ [] hs4 (by simp) (by simp)) (fun hHeld => ?_)
  clear hK K
  try simp only [Act.put]
  try simp only [List.setIfInBounds_toArray]
  try simp only [List.set]
  refine Tail.Lst.mk [9, 10, 11] ?_
  iterate 3 (refine Tail.Lst.takeH rfl (v := ?_) (Or.inl ⟨by rfl, ?_⟩) ?_; rotate_left; (next => intro w hSw; (try dsimp only at hSw); go_simp; (try with_reducible rfl)); simp only [Act.put, List.getElem_toArray, List.getElem_cons_succ, List.getElem_cons_zero, List.setIfInBounds_toArray, List.set])
  refine Tail.Lst.nil ?_
  have HE4 := hid (HE3.out.new hr HOK.out.fine hm)
  have HD4 := hid (HD3.out.step hs4 (by simp))
  have HS4 := hid (HS3.out.trans hs4)
  have BX4 := hid (BX3.out.step hs4 (by simp))
  have BY4 := hid (BY3.out.step hs4 (by simp))
  have BZ4 := hid (BZ3.out.step hs4 (by simp))
  clear hs4 hr hm hb4 HB HD3 HE3 HS3 BX3 BZ3 BY3 y0 y1 HC
  generalize Step.paint O1 wc.drew ce = O4 at *
  have hs5 : Step [f] w4 O4 ((w4.setCell ⟨X, 0, none⟩ (.slice (some ⟨g4, 0, none⟩) ((e.bit (Q a b c) x).turns + 4) cap4)).setCell ⟨X, 1, none⟩ (.int .u64 ((e.bit (Q a b c) x).size : Int))) O4 :=
   ((Step.refl [f] w4 O4).setCell (p := ⟨X, 0, none⟩) (.inl (by simp [BX4.out.2])) _).setCell (p := ⟨X, 1, none⟩) (.inl (by simp [BX4.out.2])) _
  have hx5 := (BX4.out.setCell 0 (.slice (some ⟨g4, 0, none⟩) ((e.bit (Q a b c) x).turns + 4) cap4)).setCell 1 (.int .u64 ((e.bit (Q a b c) x).size : Int))
  simp at hx5
  have HE5 := hid (HE4.out.step hs5 (by simp; omega))
  have HD5 := hid (HD4.out.step hs5 (by simp; omega))
  have HS5 := hid ((HS4.out.nil (cs := [f])).trans hs5)
  have BX5 := hid hx5
  have BY5 : Hid (Blk ((w4.setCell ⟨X, 0, none⟩ (.slice (some ⟨g4, 0, none⟩) ((e.bit (Q a b c) x).turns + 4) cap4)).setCell ⟨X, 1, none⟩ (.int .u64 ((e.bit (Q a b c) x).size : Int))) O4 f (X + 1) _) := hid ((BY4.out.setCell_other (p := ⟨X, 0, none⟩) (by simp) _).setCell_other (p := ⟨X, 1, none⟩) (by simp) _)
  have BZ5 : Hid (Blk ((w4.setCell ⟨X, 0, none⟩ (.slice (some ⟨g4, 0, none⟩) ((e.bit (Q a b c) x).turns + 4) cap4)).setCell ⟨X, 1, none⟩ (.int .u64 ((e.bit (Q a b c) x).size : Int))) O4 f (X + 1 + 1) _) := hid ((BZ4.out.setCell_other (p := ⟨X, 0, none⟩) (by simp; omega) _).setCell_other (p := ⟨X, 1, none⟩) (by simp; omega) _)
  obtain ⟨D, hD, hT⟩ := HD5.out.own
  have HMAP := hid hD
  have HTEL := hid hT
  obtain ⟨x0, x1, f0, f1, _⟩ := two BX4.out.1
  have hS5 : (fun W => W.cell? ⟨d, 3, none⟩ = some (.map (some B)) /\ (W.cell? ⟨X + 1, 0, none⟩ = some (.int .i64 a) /\ W.cell? ⟨X + 1, 1, none⟩ = some (.int .i64 b) /\ W.cell? ⟨X + 1, 2, none⟩ = some (.int .i64 c) /\ W.cell? ⟨X + 1, 3, none⟩ = some (.int .i64 0))) ((w4.setCell ⟨X, 0, none⟩ (.slice (some ⟨g4, 0, none⟩) ((e.bit (Q a b c) x).turns + 4) cap4)).setCell ⟨X, 1, none⟩ (.int .u64 ((e.bit (Q a b c) x).size : Int))) := ⟨(ten HD5.out.blk.1).2.2.2.1, (Pk.four BY5.out.1).1⟩
  clear hs5 hx5 hD hT
  refine wpAnyH_ready (rs := [12]) (by kernel_rfl) (by simp) ?_
  refine AllReadyH.cons rfl (fun K hK => ?_) AllReadyH.nil
  go_simp
  refine hK.out _ _ (hS5) (fun hHeld => ?_)
  clear hK K
  try simp only [Act.put]
  try simp only [List.setIfInBounds_toArray]
  try simp only [List.set]
  clear x0 x1 f0 f1
  have hnB : N < maxLen := by unfold maxLen; omega
  obtain ⟨w6, hrun, hown6, hgrow6⟩ := HMAP.out.update law4 Tryz.underlying53 hnB (key_of4 ha hb hc) (plainElem_int Tryz.underlying44 HWF.out)
  unfold val4 at hrun
  obtain ⟨hM, hS6⟩ := HD5.out.mapped ha hb hc HLN.out HMAP.out.isMap HTEL.out hown6 hgrow6 HD5.out.ne
  have BX6 := hid (BX5.out.step hS6 (by simp; omega))
  have BY6 := hid (BY5.out.step hS6 (by simp; omega))
  have BZ6 := hid (BZ5.out.step hS6 (by simp; omega))
  have HE6 := hid (HE5.out.step hS6 (by simp; omega))
  have HS6 := hid ((HS5.out.mono (ds := [f, cd]) (by simp)).trans (hS6.mono (ds := [f, cd]) (by simp)))
  have HD6 := hid hM
  clear hM hS6
  refine wpAnyH_ready (rs := [13]) (by kernel_rfl) (by simp) ?_
  refine AllReadyH.cons rfl (fun K hK => ?_) AllReadyH.nil
  go_simp
  refine hK.out _ _ (⟨(ten HD6.out.blk.1).2.2.2.1, (Pk.four BY6.out.1).1⟩) (fun hHeld => ?_)
  clear hK K
  try simp only [Act.put]
  try simp only [List.setIfInBounds_toArray]
  try simp only [List.set]
  refine wpAnyH_done (by kernel_rfl) ?_ _
  clear hrun hown6 hgrow6 hHeld hS5 HD5 HE5 HS5 BX5 BY5 BZ5 HMAP HTEL HE4 HD4 HS4 BX4 BY4 BZ4 HWF HLN HOK HQB HQ
  obtain ⟨x0, x1, _, _, _⟩ := two BX6.out.1
  obtain ⟨z0, z1, f0, f1, _⟩ := two BZ6.out.1
  go_wp2_with fail
  have hs7 : Step [f] w6 O4 ((w6.setCell ⟨X + 1 + 1, 0, none⟩ (.slice (some ⟨g4, 0, none⟩) ((e.bit (Q a b c) x).turns + 4) cap4)).setCell ⟨X + 1 + 1, 1, none⟩ (.int .u64 ((e.bit (Q a b c) x).size : Int))) O4 :=
   ((Step.refl [f] w6 O4).setCell (p := ⟨X + 1 + 1, 0, none⟩) (.inl (by simp [BZ6.out.2])) _).setCell (p := ⟨X + 1 + 1, 1, none⟩) (.inl (by simp [BZ6.out.2])) _
  have hz7 := (BZ6.out.setCell 0 (.slice (some ⟨g4, 0, none⟩) ((e.bit (Q a b c) x).turns + 4) cap4)).setCell 1 (.int .u64 ((e.bit (Q a b c) x).size : Int))
  simp at hz7
  have HE7 := hid (HE6.out.step hs7 (by simp; omega))
  have HD7 := hid (HD6.out.step hs7 (by simp; omega))
  have HS7 := hid (step_drop (HS6.out.trans (hs7.mono (ds := [f, cd]) (by simp))) (by rw [HXE.out]; exact HFO.out))
  clear hs7 HE6 HD6 HS6 BX6 BY6 BZ6 x0 x1 z0 z1 f0 f1
  generalize (w6.setCell ⟨X + 1 + 1, 0, none⟩ (.slice (some ⟨g4, 0, none⟩) ((e.bit (Q a b c) x).turns + 4) cap4)).setCell ⟨X + 1 + 1, 1, none⟩ (.int .u64 ((e.bit (Q a b c) x).size : Int)) = W7 at *
  obtain ⟨z0, z1, _, _, _⟩ := two hz7.1
  refine bodyPost_ret (v := .agg #[.slice (some ⟨g4, 0, none⟩) ((e.bit (Q a b c) x).turns + 4) cap4, .int .u64 ((e.bit (Q a b c) x).size : Int)]) ?_ rfl ?_
  · simp [results, Tryz.results35, go_sem, z0, z1]
  · exact ⟨_, _, rfl, HS7.out, HD7.out, HE7.out⟩
end
end Go.Proofs.YtfpoabeihpfeiaaGreat.Dc
end
section
namespace Go.Proofs.YtfpoabeihpfeiaaGreat.Mo
open Rc
theorem qset_tl (Q : Qs) (a b n : Nat) : qset Q a b (tl Q a b n) = Q := by
 funext a' b' j
 unfold qset
 split
 · rename_i h
   obtain ⟨rfl, rfl, h3⟩ := h
   have h4 : j < n := by simpa [tl] using h3
   simp [tl, h4]
 · rfl
def Es.of (s : Es) (a b : Nat) (t : Tr) : Es := ⟨t.e, qset s.q a b t.l⟩
theorem of_t0 (s : Es) (a b len : Nat) : s.of a b (s.t0 a b len) = s := by
 unfold Es.of Es.t0
 simp only
 rw [qset_tl]
theorem of_at {s : Es} {a b k v : Nat} {t : Tr} (hk : k < t.l.length) : (s.of a b t).one a b k v = s.of a b (t.at k v) := by
 have hq : qset s.q a b t.l a b k = t.l.getD k 0 := by unfold qset; rw [if_pos ⟨rfl, rfl, hk⟩]
 unfold Es.one Es.of Tr.at
 simp only [hq]
 congr 1
 funext a' b' j
 unfold qone qset
 by_cases e : a' = a /\ b' = b /\ j = k
 · obtain ⟨rfl, rfl, rfl⟩ := e
   rw [if_pos ⟨rfl, rfl, rfl⟩, if_pos ⟨rfl, rfl, by simpa using hk⟩]
   simp [List.getD, hk]
 · rw [if_neg e]
   by_cases e2 : a' = a /\ b' = b /\ j < t.l.length
   · rw [if_pos e2, if_pos ⟨e2.1, e2.2.1, by simpa using e2.2.2⟩]
     have : k ≠ j := fun h => e ⟨e2.1, e2.2.1, h.symm⟩
     simp [List.getD, this]
   · rw [if_neg e2, if_neg (fun h => e2 ⟨h.1, h.2.1, by simpa using h.2.2⟩)]
end Go.Proofs.YtfpoabeihpfeiaaGreat.Mo
end
section
namespace Go.Proofs.YtfpoabeihpfeiaaGreat.Dc
open Go.RowKit Go.Maps
open Rc Mo
open Pk (Rp)
theorem EncV.form {w : World} {O : Paint} {c : Nat} {v : Value} {e : Enc} (h : EncV w O c v e) : ∃ g cap, v = .slice (some ⟨g, 0, none⟩) (e.turns + 4) cap := by
 obtain ⟨g, cap, hv⟩ := h.row.form (by rw [be_length]; omega)
 rw [be_length] at hv
 exact ⟨g, cap, hv⟩
structure Held1 (w0 : World) (O0 : Paint) (f cd ce d B N X Z : Nat) (m : Ms) (s : Es) (w : World) (O : Paint) (v : Value) : Prop where
 st : Step [f, cd] w0 O0 w O
 doc : DocAt w O cd d B N m s.q
 enc : EncV w O ce v s.e
 bx : Blk w O f X (.cells #[v, .int .u64 s.e.size] 46 (0, 0))
 bz : Blk w O f Z (.cells #[.slice none 0 0, .int .u64 0] 46 (0, 0))
 fresh : ∀ k, k < w0.heap.size -> O0 k ≠ f
 n1 : f ≠ cd
 n2 : f ≠ ce
 n3 : cd ≠ ce
 n4 : X ≠ Z
section
variable {w0 w w2 : World} {O0 O O2 : Paint} {f cd ce d B N N' X Z : Nat} {m m' : Ms} {s s' : Es} {v v2 : Value} {e : Enc} {Q : Qs}
theorem Held1.start (h : DocAt w O cd d B N m Q) (he : EncV w O ce v e) (hne : cd ≠ ce) :
  ∃ f, Held1 w O f cd ce d B N w.heap.size (w.heap.size + 1) m ⟨e, Q⟩ ((w.alloc (.cells #[v, .int .u64 e.size] 46)).alloc (.cells #[.slice none 0 0, .int .u64 0] 46)) (Step.paint O w f) v := by
 obtain ⟨f, hf1, hf2, hfO⟩ := mod_fresh O w.heap.size cd ce
 have hb1 : Below w.heap.size w ((w.alloc (.cells #[v, .int .u64 e.size] 46)).alloc (.cells #[.slice none 0 0, .int .u64 0] 46)) := ((Below.refl _ _).alloc (Nat.le_refl _) _).alloc (by simp) _
 have hs1 := Step.of_below hb1 O f
 have hX := heap_alloc_new w (.cells #[v, .int .u64 e.size] 46)
 have hX2 := (Below.heap_alloc (w.alloc (.cells #[v, .int .u64 e.size] 46)) (.cells #[.slice none 0 0, .int .u64 0] 46) _ (lt_of_heap hX)).trans hX
 have hZ := heap_alloc_new (w.alloc (.cells #[v, .int .u64 e.size] 46)) (.cells #[.slice none 0 0, .int .u64 0] 46)
 rw [World.size_alloc] at hZ
 exact ⟨f, hs1.nil, h.step hs1 (by simp), he.step hs1 (by simp), ⟨hX2, Step.paint_new (Nat.le_refl _)⟩, ⟨hZ, Step.paint_new (by omega)⟩, hfO, hf1, hf2, hne, by omega⟩
theorem Held1.next (h : Held1 w0 O0 f cd ce d B N X Z m s w O v) (hs : Step [cd] w O w2 O2) (hd : DocAt w2 O2 cd d B N' m' s'.q) (he : EncV w2 O2 ce v2 s'.e) :
  Held1 w0 O0 f cd ce d B N' X Z m' s' ((w2.setCell ⟨X, 0, none⟩ v2).setCell ⟨X, 1, none⟩ (.int .u64 s'.e.size)) O2 v2 := by
 have hn := h.n1
 have hx := h.bx.step hs (by simpa using hn)
 have hz := h.bz.step hs (by simpa using hn)
 have h4 := h.n4
 have hs5 : Step [f] w2 O2 ((w2.setCell ⟨X, 0, none⟩ v2).setCell ⟨X, 1, none⟩ (.int .u64 s'.e.size)) O2 :=
  ((Step.refl [f] w2 O2).setCell (p := ⟨X, 0, none⟩) (.inl (by simp [hx.2])) _).setCell (p := ⟨X, 1, none⟩) (.inl (by simp [hx.2])) _
 have hx5 := (hx.setCell 0 v2).setCell 1 (.int .u64 s'.e.size)
 simp at hx5
 have n1 := h.n1
 have n2 := h.n2
 exact ⟨(h.st.trans (hs.mono (by intro z hz; simp at hz ⊢; omega))).trans (hs5.mono (by intro z hz; simp at hz ⊢; omega)), hd.step hs5 (by simp; omega), he.step hs5 (by simp; omega), hx5, (hz.setCell_other (p := ⟨X, 0, none⟩) h4 _).setCell_other (p := ⟨X, 1, none⟩) h4 _, h.fresh, h.n1, h.n2, h.n3, h.n4⟩
theorem Held1.cells (h : Held1 w0 O0 f cd ce d B N X Z m s w O v) : w.cell? ⟨X, 0, none⟩ = some v /\ w.cell? ⟨X, 1, none⟩ = some (.int .u64 s.e.size) /\ w.frozen? ⟨X, 0, none⟩ = false /\ w.frozen? ⟨X, 1, none⟩ = false := by
 obtain ⟨a, b, c, e, _⟩ := two h.bx.1
 exact ⟨a, b, c, e⟩
theorem Held1.cells2 (h : Held1 w0 O0 f cd ce d B N X Z m s w O v) (hs : Step [cd] w O w2 O2) : w2.cell? ⟨X, 0, none⟩ = some v /\ w2.cell? ⟨X, 1, none⟩ = some (.int .u64 s.e.size) /\ w2.frozen? ⟨X, 0, none⟩ = false /\ w2.frozen? ⟨X, 1, none⟩ = false := by
 obtain ⟨a, b, c, e, _⟩ := two (h.bx.step hs (by simpa using h.n1)).1
 exact ⟨a, b, c, e⟩
theorem Held1.cellsZ (h : Held1 w0 O0 f cd ce d B N X Z m s w O v) : w.cell? ⟨Z, 0, none⟩ = some (.slice none 0 0) /\ w.cell? ⟨Z, 1, none⟩ = some (.int .u64 0) /\ w.frozen? ⟨Z, 0, none⟩ = false /\ w.frozen? ⟨Z, 1, none⟩ = false := by
 obtain ⟨a, b, c, e, _⟩ := two h.bz.1
 exact ⟨a, b, c, e⟩
theorem Held1.idle (h : Held1 w0 O0 f cd ce d B N X Z m s w O v) (hs : Step [] w O w2 O2) : Held1 w0 O0 f cd ce d B N X Z m s w2 O2 v :=
 ⟨h.st.trans (hs.nil), h.doc.step hs (by simp), h.enc.step hs (by simp), h.bx.step hs (by simp), h.bz.step hs (by simp), h.fresh, h.n1, h.n2, h.n3, h.n4⟩
theorem Held1.done (h : Held1 w0 O0 f cd ce d B N X Z m s w O v) : ∃ W, (w.setCell ⟨Z, 0, none⟩ v).setCell ⟨Z, 1, none⟩ (.int .u64 s.e.size) = W /\ W.cell? ⟨Z, 0, none⟩ = some v /\ W.cell? ⟨Z, 1, none⟩ = some (.int .u64 s.e.size) /\
  DocTo w0 O0 cd ce d B N m s (.returned (.agg #[v, .int .u64 s.e.size])) W := by
 have hs5 : Step [f] w O ((w.setCell ⟨Z, 0, none⟩ v).setCell ⟨Z, 1, none⟩ (.int .u64 s.e.size)) O :=
  ((Step.refl [f] w O).setCell (p := ⟨Z, 0, none⟩) (.inl (by simp [h.bz.2])) _).setCell (p := ⟨Z, 1, none⟩) (.inl (by simp [h.bz.2])) _
 have hz5 := (h.bz.setCell 0 v).setCell 1 (.int .u64 s.e.size)
 simp at hz5
 have n1 := h.n1
 have n2 := h.n2
 obtain ⟨a, b, _⟩ := two hz5.1
 exact ⟨_, rfl, a, b, v, O, rfl, step_drop (h.st.trans (hs5.mono (by intro z hz; simp at hz ⊢; omega))) h.fresh, h.doc.step hs5 (by simp; omega), h.enc.step hs5 (by simp; omega)⟩
theorem Held1.cellsZ2 (h : Held1 w0 O0 f cd ce d B N X Z m s w O v) (hs : Step [cd] w O w2 O2) : w2.cell? ⟨Z, 0, none⟩ = some (.slice none 0 0) /\ w2.cell? ⟨Z, 1, none⟩ = some (.int .u64 0) /\ w2.frozen? ⟨Z, 0, none⟩ = false /\ w2.frozen? ⟨Z, 1, none⟩ = false := by
 obtain ⟨a, b, c, e, _⟩ := two (h.bz.step hs (by simpa using h.n1)).1
 exact ⟨a, b, c, e⟩
theorem Held1.ret (h : Held1 w0 O0 f cd ce d B N X Z m s w O v) (hs : Step [cd] w O w2 O2) (hd : DocAt w2 O2 cd d B N' m' s'.q) (he : EncV w2 O2 ce v2 s'.e) :
  ∃ W, (w2.setCell ⟨Z, 0, none⟩ v2).setCell ⟨Z, 1, none⟩ (.int .u64 s'.e.size) = W /\ W.cell? ⟨Z, 0, none⟩ = some v2 /\ W.cell? ⟨Z, 1, none⟩ = some (.int .u64 s'.e.size) /\
   DocTo w0 O0 cd ce d B N' m' s' (.returned (.agg #[v2, .int .u64 s'.e.size])) W := by
 have n1 := h.n1
 have n2 := h.n2
 have hz := h.bz.step hs (by simpa using n1)
 have hs5 : Step [f] w2 O2 ((w2.setCell ⟨Z, 0, none⟩ v2).setCell ⟨Z, 1, none⟩ (.int .u64 s'.e.size)) O2 :=
  ((Step.refl [f] w2 O2).setCell (p := ⟨Z, 0, none⟩) (.inl (by simp [hz.2])) _).setCell (p := ⟨Z, 1, none⟩) (.inl (by simp [hz.2])) _
 have hz5 := (hz.setCell 0 v2).setCell 1 (.int .u64 s'.e.size)
 simp at hz5
 obtain ⟨a, b, _⟩ := two hz5.1
 exact ⟨_, rfl, a, b, v2, O2, rfl, step_drop ((h.st.trans (hs.mono (by intro z hz; simp at hz ⊢; omega))).trans (hs5.mono (by intro z hz; simp at hz ⊢; omega))) h.fresh, hd.step hs5 (by simp; omega), he.step hs5 (by simp; omega)⟩
end
end Go.Proofs.YtfpoabeihpfeiaaGreat.Dc
end
section
namespace Go.Proofs.YtfpoabeihpfeiaaGreat.Dc
open Go.RowKit Go.Maps
open Rc Mo
open Pk (Rp)
section
variable {w : World} {O : Paint} {d B N cd ce : Nat} {m : Ms} {Q : Qs} {v : Value} {e : Enc}
theorem quo_pow {x q : Nat} (hq : 0 < q) : Int.tdiv (x : Int) (q : Int) = ((x / q : Nat) : Int) := by
 rw [Int.tdiv_eq_ediv_of_nonneg (by omega)]; exact (Int.natCast_ediv x q).symm
theorem rem_two (x : Nat) : Int.tmod (x : Int) 2 = ((x % 2 : Nat) : Int) := by
 rw [Int.tmod_eq_emod_of_nonneg (by omega)]; omega
theorem dtree_any (h : DocAt w O cd d B N m Q) (he : EncV w O ce v e) (hne : cd ≠ ce) (ht : e.turns <= 800000) {a b n x len : Nat} (back : Bool) (hln : 2 ^ n <= len) (ha : a < 1000000) (hb : b < 1000000) (hn : n <= 16) (hx : x < 2147483648) (hN : N <= 900000000) :
  Calls Tryz.prog 59 #[.pointer (some ⟨d, 0, none⟩), .agg #[v, .int .u64 e.size], .int .i64 a, .int .i64 b, .int .i64 n, .int .i64 x, .bool back] w (DocTo w O cd ce d B (N + n) m ((⟨e, Q⟩ : Es).tr back a b len n x)) := by
 have hok : (⟨e, Q⟩ : Es).Ok := ⟨he.fine, h.q⟩
 have hT0 := hok.t0 a b len
 have HPK := hid (fun i hi => putN_okM back n x hT0 hln i hi)
 have HTU := hid (fun i => putN_turns back n x ((⟨e, Q⟩ : Es).t0 a b len) i)
 obtain ⟨f, hH⟩ := Held1.start h he hne
 have HOF := hid (of_t0 (⟨e, Q⟩ : Es) a b len)
 have HTR : Hid ((⟨e, Q⟩ : Es).tr back a b len n x = (⟨e, Q⟩ : Es).of a b (putN back n x ((⟨e, Q⟩ : Es).t0 a b len) n)) := hid rfl
 have HLL := hid hln
 have HPN : Hid (∀ i, putN back n x ((⟨e, Q⟩ : Es).t0 a b len) (i + 1) = (putN back n x ((⟨e, Q⟩ : Es).t0 a b len) i).step (if back then bitAt x i else bitAt x (n - 1 - i))) := hid (fun i => rfl)
 have HH := hid hH
 rw [HTR.out]
 clear h he hok hT0 hH hln HTR
 have HT0 : Hid ((putN back n x ((⟨e, Q⟩ : Es).t0 a b len) 0).m = 1) := hid rfl
 go_enter Tryz.func59, Tryz.ntmps59
 go_wp2_with fail
 generalize (w.alloc (.cells #[v, .int .u64 e.size] 46)).alloc (.cells #[.slice none 0 0, .int .u64 0] 46) = W1 at *
 generalize Step.paint O w f = O1 at *
 generalize w.heap.size = X at *
 have HS0 := HOF
 rw [<- HS0.out] at HH
 clear HS0
 have HET : Hid (((⟨e, Q⟩ : Es).t0 a b len).e.turns = e.turns) := hid rfl
 generalize hs0 : (⟨e, Q⟩ : Es) = s0 at *
 clear hs0
 generalize s0.t0 a b len = T0 at *
 go_loopw [15, 16, 17, 18] (fun at' i _ _ wr => ∃ (k : Nat) (v' : Value) (O' : Paint), k <= n /\ i = .int .i64 k /\ at' = .int .i64 ((putN back n x T0 k).m : Int) /\ Held1 w O f cd ce d B (N + k) X (X + 1) m (s0.of a b (putN back n x T0 k)) wr O' v') (fun _ i _ _ _ => n - (intOf i).toNat)
 case atStart => exact ⟨0, v, O1, by omega, rfl, by rw [HT0.out]; rfl, HH.out⟩
 case round =>
  clear HH
  obtain ⟨k, v', O', hk, rfl, rfl, hL⟩ := hrel
  by_cases hlt : k < n
  · have hS := HPK.out k hk
    have hT := HTU.out k
    have hmN : (putN back n x T0 k).m < len := Nat.lt_of_lt_of_le hS.2.2.2 (Nat.le_trans (Nat.pow_le_pow_right (by omega) hlt) HLL.out)
    have hlen : (putN back n x T0 k).m < (putN back n x T0 k).l.length := by rw [hS.2.2.1]; exact hmN
    have h17 : 2 ^ (k + 1) <= 2 ^ 17 := Nat.pow_le_pow_right (by omega) (by omega)
    have hm17 : (putN back n x T0 k).m < 131072 := by have := hS.2.2.2; omega
    clear h17
    have HOA := hid (fun u => of_at (s := s0) (a := a) (b := b) (v := u) hlen)
    have HNX := hid (HPN.out k)
    have HET2 : Hid ((s0.of a b (putN back n x T0 k)).e.turns <= 800100) := hid (by
     show (putN back n x T0 k).e.turns <= _
     have := HET.out
     omega)
    obtain ⟨g, cap, rfl⟩ := hL.enc.form
    have HL := hid hL
    clear hL hS hT hmN hlen
    generalize putN back n x T0 k = S at *
    have HSM := hid (show S.step = fun u => S.at S.m u from rfl)
    generalize hsm : S.m = mm at *
    have HMM := hid hsm
    clear hsm
    cases back with
    | true =>
     as_aux_lemma =>
     -- BEGIN fore
     have hq : 0 < 2 ^ k := Nat.two_pow_pos k
     have hq2 : 2 ^ k <= 1099511627776 := pow_le k (by omega)
     have HPW := hid (power_any k (by omega) wr)
     obtain ⟨bt, hbt⟩ : ∃ bt, bt = bitAt x k := ⟨_, rfl⟩
     have hbl : bt <= 1 := by rw [hbt]; exact bitAt_le _ _
     obtain ⟨y, hy⟩ : ∃ y, y = x / 2 ^ k := ⟨_, rfl⟩
     have hyx : y <= x := by rw [hy]; exact Nat.div_le_self _ _
     have hyb : bt = y % 2 := by rw [hbt, hy]; rfl
     have e1 := quo_pow (x := x) hq
     rw [<- hy] at e1
     have e2 := rem_two y
     rw [<- hyb] at e2
     have HNXT : Hid (putN true n x T0 (k + 1) = S.at mm bt) := hid (by rw [HNX.out, hbt, <- HMM.out]; rfl)
     have HB := hid (dbit_any HL.out.doc HL.out.enc HL.out.n3 (by have := HET2.out; omega) ha hb (c := mm) (x := bt) (by omega) hbl (by omega))
     rw [show (⟨(s0.of a b S).e, (s0.of a b S).q⟩ : Es) = s0.of a b S from rfl, HOA.out bt] at HB
     have hw2 : IntKind.i64.wrap (2 * (mm : Int)) = 2 * (mm : Int) := by rw [IntKind.wrap_i64]; omega
     have hw3 : IntKind.i64.wrap (2 * (mm : Int) + (bt : Int)) = 2 * (mm : Int) + (bt : Int) := by rw [IntKind.wrap_i64]; omega
     have hw4 : IntKind.i64.wrap (y : Int) = (y : Int) := by rw [IntKind.wrap_i64]; omega
     have hqi : ((2 ^ k : Nat) : Int) ≠ 0 := by omega
     obtain ⟨c0, c1, f0, f1⟩ := HL.out.cells
     clear hy hyb hbt HNX HPN HOA HPK HTU HLL HOF HT0 HET
     generalize 2 ^ k = q at *
     go_wp2_with fail
     refine HPW.out.mono ?_
     rintro z w4 ⟨rfl, rfl⟩
     go_wp2_with fail
     refine HB.out.mono ?_
     rintro z w5 ⟨v5, O5, rfl, hs5, hd5, he5⟩
     obtain ⟨g5, cap5, rfl⟩ := he5.form
     have HN5 := hid (HL.out.next hs5 hd5 he5)
     clear c0 c1 f0 f1
     obtain ⟨c0, c1, f0, f1⟩ := HL.out.cells2 hs5
     clear hs5 hd5 he5 HL HB HPW
     go_wp2_with fail
     go_roundw
     case rel => exact ⟨k + 1, _, _, by omega, by go_num, by rw [HNXT.out]; show Value.int .i64 (2 * (mm : Int) + (bt : Int)) = .int .i64 ((2 * S.m + bt : Nat) : Int); rw [HMM.out]; simp, by rw [HNXT.out]; exact HN5.out⟩
     case measure => simp [intOf]; omega
     -- END fore
    | false =>
     as_aux_lemma =>
     -- BEGIN back
     obtain ⟨j, hj⟩ : ∃ j, j = n - 1 - k := ⟨_, rfl⟩
     have hw0 : IntKind.i64.wrap ((n : Int) - 1) = (n : Int) - 1 := by rw [IntKind.wrap_i64]; omega
     have hw1 : IntKind.i64.wrap ((n : Int) - 1 - (k : Int)) = (j : Int) := by rw [IntKind.wrap_i64]; omega
     rw [<- hj] at HNX
     have hj40 : j <= 16 := by omega
     clear hj
     have hq : 0 < 2 ^ j := Nat.two_pow_pos j
     have hq2 : 2 ^ j <= 1099511627776 := pow_le j (by omega)
     have HPW := hid (power_any j (by omega) wr)
     obtain ⟨bt, hbt⟩ : ∃ bt, bt = bitAt x j := ⟨_, rfl⟩
     have hbl : bt <= 1 := by rw [hbt]; exact bitAt_le _ _
     obtain ⟨y, hy⟩ : ∃ y, y = x / 2 ^ j := ⟨_, rfl⟩
     have hyx : y <= x := by rw [hy]; exact Nat.div_le_self _ _
     have hyb : bt = y % 2 := by rw [hbt, hy]; rfl
     have e1 := quo_pow (x := x) hq
     rw [<- hy] at e1
     have e2 := rem_two y
     rw [<- hyb] at e2
     have HNXT : Hid (putN false n x T0 (k + 1) = S.at mm bt) := hid (by rw [HNX.out, hbt, <- HMM.out]; rfl)
     have HB := hid (dbit_any HL.out.doc HL.out.enc HL.out.n3 (by have := HET2.out; omega) ha hb (c := mm) (x := bt) (by omega) hbl (by omega))
     rw [show (⟨(s0.of a b S).e, (s0.of a b S).q⟩ : Es) = s0.of a b S from rfl, HOA.out bt] at HB
     have hw2 : IntKind.i64.wrap (2 * (mm : Int)) = 2 * (mm : Int) := by rw [IntKind.wrap_i64]; omega
     have hw3 : IntKind.i64.wrap (2 * (mm : Int) + (bt : Int)) = 2 * (mm : Int) + (bt : Int) := by rw [IntKind.wrap_i64]; omega
     have hw4 : IntKind.i64.wrap (y : Int) = (y : Int) := by rw [IntKind.wrap_i64]; omega
     have hqi : ((2 ^ j : Nat) : Int) ≠ 0 := by omega
     obtain ⟨c0, c1, f0, f1⟩ := HL.out.cells
     clear hy hyb hbt HNX HPN HOA HPK HTU HLL HOF HT0 HET
     generalize 2 ^ j = q at *
     go_wp2_with fail
     refine HPW.out.mono ?_
     rintro z w4 ⟨rfl, rfl⟩
     go_wp2_with fail
     refine HB.out.mono ?_
     rintro z w5 ⟨v5, O5, rfl, hs5, hd5, he5⟩
     obtain ⟨g5, cap5, rfl⟩ := he5.form
     have HN5 := hid (HL.out.next hs5 hd5 he5)
     clear c0 c1 f0 f1
     obtain ⟨c0, c1, f0, f1⟩ := HL.out.cells2 hs5
     clear hs5 hd5 he5 HL HB HPW
     go_wp2_with fail
     go_roundw
     case rel => exact ⟨k + 1, _, _, by omega, by go_num, by rw [HNXT.out]; show Value.int .i64 (2 * (mm : Int) + (bt : Int)) = .int .i64 ((2 * S.m + bt : Nat) : Int); rw [HMM.out]; simp, by rw [HNXT.out]; exact HN5.out⟩
     case measure => simp [intOf]; omega
     -- END back
  · obtain rfl : k = n := by omega
    as_aux_lemma =>
    -- BEGIN fin
    obtain ⟨g, cap, rfl⟩ := hL.enc.form
    obtain ⟨c0, c1, f0, f1⟩ := hL.cells
    obtain ⟨z0, z1, y0, y1⟩ := hL.cellsZ
    have HL := hid hL
    clear hL
    generalize s0.of a b (putN back k x T0 k) = se at *
    go_wp2_with fail
    obtain ⟨W, hW, r0, r1, hr⟩ := HL.out.done
    rw [hW]
    clear hW HL c0 c1 f0 f1 z0 z1 y0 y1
    refine bodyPost_ret (v := .agg #[.slice (some ⟨g, 0, none⟩) (se.e.turns + 4) cap, .int .u64 se.e.size]) ?_ rfl hr
    simp [results, Tryz.results59, go_sem, r0, r1]
    -- END fin
end
end Go.Proofs.YtfpoabeihpfeiaaGreat.Dc
end
