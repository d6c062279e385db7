/-
  The walk of the statement PacketCopies: for every text and every list it returns true, and writes nothing that was there.
-/
import Derived.Test.YthejbnodalnnpaaPackTells
import Derived.Test.YthejbnodalnnpaaPackRepeatEnd
import Derived.Deep.QuietTactic
import Derived.BigQuiet
import Derived.Deep.CutBlock
import Derived.Deep.DeepCutAuto
import Derived.Deep.AppendLies
namespace Go.Proofs.Ythejbnodalnnpaa.Pk
open Go.RowKit
open Wnd (copied copied_length)
theorem grow_text (l : List UInt8) (d j : Nat) (h1 : 1 ≤ d) (h2 : d ≤ l.length) (U : ByteArray) (hU : U = ⟨(copied l d j).toArray⟩) : U ++ U.extract (U.size - d) (U.size - d + 1) = ⟨(copied l d (j + 1)).toArray⟩ := by
  subst hU
  have hL := copied_length l d j
  apply ByteArray.ext
  apply Array.toList_inj.1
  have hs : ByteArray.size ⟨(copied l d j).toArray⟩ = (copied l d j).length := by simp [ByteArray.size]
  rw [hs]
  have hlt : (copied l d j).length - d < (copied l d j).length := by omega
  simp [copied, List.getD, hlt]
  rw [List.drop_eq_getElem_cons hlt]
  rfl
/-- The pairs that came in. -/
def IsTwos (w : World) (a : Option Addr) (len : Nat) : Prop :=
  len ≤ maxLen ∧ (len = 0 ∨ ∃ b off, a = some ⟨b, off, none⟩ ∧ b < w.heap.size ∧ ∀ i, i < len → ∃ x y : Nat, w.cell? ⟨b, off + i * 2, none⟩ = some (.int .u16 (x : Int)) ∧ w.cell? ⟨b, off + i * 2 + 1, none⟩ = some (.int .u16 (y : Int)) ∧ x < 65536 ∧ y < 65536)
/-- What both loops hold. -/
def Telling (w0 : World) (n : Nat) (s : List UInt8) (v : Value) (w : World) : Prop := ∃ ps r, Pts w v ps ∧ ps.length = n ∧ (∀ p ∈ ps, p.b < 256) ∧ Tells ps s r ∧ Below w0.heap.size w0 w ∧ ∀ k, v.ownBlock = some k → w0.heap.size ≤ k
theorem below_own {w0 w w' : World} {v : Value} (h : Below w0.heap.size w0 w) (hv : ∀ k, v.ownBlock = some k → w0.heap.size ≤ k) (o : Obj) (hg : (w.alloc o).grownBy w' v.ownBlock) : Below w0.heap.size w0 w' :=
  h.trans ((((Frame.refl (fun k => v.ownBlock = some k) w).alloc o).grown hg (fun k hk => .inl hk)).below h.size (fun k hk ho => by have := hv k ho; omega))
theorem moved_own {w0 w : World} {v v' : Value} (h : Below w0.heap.size w0 w) (hv : ∀ k, v.ownBlock = some k → w0.heap.size ≤ k) (o : Obj) (hm : Moved (w.alloc o) v v') : ∀ k, v'.ownBlock = some k → w0.heap.size ≤ k := by
  intro k hk
  rcases hm with e | e
  · rw [e] at hk; exact hv k hk
  · have h1 := e k hk
    rw [World.size_alloc] at h1
    have := h.size
    omega
theorem pt_new (w : World) (a b c d : Value) : ∀ j u, [a, b, c, d][j]? = some u → (w.alloc (.cells #[a, b, c, d] 74)).cell? ((⟨w.heap.size, 0, none⟩ : Addr).add j) = some u := World.news_of_block (heap_alloc_new _ _)
theorem pt_one (a b c : Int) (d : Nat) : ∀ u ∈ [Value.int .i64 a, .int .i64 b, .int .i64 c, .int .u8 (d : Int)], u.oneCell' = true := by
  intro u hu
  simp at hu
  rcases hu with rfl | rfl | rfl | rfl <;> rfl
theorem Telling.step {w0 w w' : World} {n g cap : Nat} {s' : List UInt8} {v : Value} {ps : List Pt} {r : Rp} {o : Obj} {p : Pt} (hn : ps.length = n) (hb : Below w0.heap.size w0 w) (hv : ∀ k, v.ownBlock = some k → w0.heap.size ≤ k) (hp : ∀ p ∈ ps, p.b < 256) (hpb : p.b < 256) (ht : Tells (ps ++ [p]) s' r)
    (hown : w'.ownsRow 0 74 4 (.slice (some ⟨g, 0, none⟩) (n + 1) cap) (n + 1) (flatP ps ++ [.int .i64 p.k, .int .i64 p.d, .int .i64 p.n, .int .u8 (p.b : Int)])) (hg : (w.alloc o).grownBy w' v.ownBlock) (hm : Moved (w.alloc o) v (.slice (some ⟨g, 0, none⟩) (n + 1) cap)) : Telling w0 (n + 1) s' (.slice (some ⟨g, 0, none⟩) (n + 1) cap) w' := by
  refine ⟨ps ++ [p], r, ?_, by simp [hn], ?_, ht, below_own hb hv o hg, moved_own hb hv o hm⟩
  · unfold Pts
    rw [List.length_append, flatP_append, hn]
    exact hown
  · intro q hq
    rcases List.mem_append.1 hq with h | h
    · exact hp q h
    · simp at h; subst h; exact hpb
set_option maxRecDepth 100000 in
set_option maxHeartbeats 16000000 in
theorem copies_walk (t : ByteArray) (a0 : Option Addr) (len cap : Nat) (w : World) (hs : t.size ≤ maxLen) (hl : IsTwos w a0 len) :
    Calls Try.prog 7 #[.string t, .slice a0 len cap] w fun x w' => x = .returned (.bool true) ∧ Below w.heap.size w w' := by
  have HIS := Lib.hid hl
  have hlen := hl.1
  unfold maxLen at hs hlen
  obtain ⟨i0, hi, hz0, hz1, hz2⟩ := info_parts infoPk
  have HI := Lib.hid hi
  have HZ0 := Lib.hid hz0
  have HZ1 := Lib.hid hz1
  have HZ2 := Lib.hid hz2
  clear hl hi hz0 hz1 hz2
  go_enter Try.func7, Try.ntmps7
  go_wp2_with fail
  refine (speaks6 w repeat_pp).mono ?_
  rintro x w1 ⟨rfl, hb1⟩
  have HB1 := Lib.hid hb1
  clear hb1
  go_upto_block 0 with (fail)
  have hus : (t.extract 0 (if (40 : Int) < (t.size : Int) then (40 : Int) else (t.size : Int)).toNat).size ≤ 40 := by
    split <;> simp <;> omega
  generalize (if (40 : Int) < (t.size : Int) then (40 : Int) else (t.size : Int)) = mn at *
  generalize t.extract 0 mn.toNat = u at *
  go_cut [5, 6] (fun c5 _ wc => Telling w u.size u.data.toList c5 wc)
  case first =>
    as_aux_lemma =>
    -- BEGIN lits
    go_wp2_with fail
    go_loopw [5, 6] (fun v i wr => ∃ k : Nat, k ≤ u.size ∧ i = .int .i64 k ∧ Telling w k (u.data.toList.take k) v wr) (fun _ i _ => u.size - (intOf i).toNat)
    case atStart => exact ⟨0, by omega, rfl, [], _, Pts.nil _, rfl, by simp, tells_nil, HB1.out, by simp [Value.ownBlock]⟩
    case round =>
      obtain ⟨k, hk, rfl, ps, r, hp, hpl, hpb, ht, hb, hv⟩ := hrel
      by_cases hlt : k < u.size
      · have hx := UInt8.toNat_lt u[k]
        have HP : Hid (wr.ownsRow 0 74 4 u5 k (flatP ps)) := Lib.hid (by rw [← hpl]; exact hp)
        have HPL := Lib.hid hpl
        have HPB := Lib.hid hpb
        have HV := Lib.hid hv
        have HB := Lib.hid hb
        have HT : Hid (Tells (ps ++ [⟨1, 0, 0, u[k].toNat⟩]) (u.data.toList.take (k + 1)) r) := Lib.hid (by
          have := ht.lit u[k].toNat
          rw [List.take_succ_eq_append_getElem (by simpa using hlt)]
          have e : UInt8.ofNat u[k].toNat = u[k] := by simp
          rw [e] at this
          exact this)
        have hm1 : k + 1 ≤ maxLen := by unfold maxLen; omega
        have hm2 : (k + 1) * 32 ≤ 140737488355328 := by omega
        clear hp hpl hpb hv hb ht
        go_wp2_with (at_builtin; refine wpList_append_one _ rfl _ _ 61 rfl 74 i0 (.agg #[.int .i64 0, .int .i64 0, .int .i64 0, .int .u8 0]) 4 32 Try.underlying61 HI.out HZ0.out HZ1.out HZ2.out rfl (by decide) u5 k _ rfl (HP.out.alloc _) ⟨wr.heap.size, 0, none⟩ 1 [.int .i64 1, .int .i64 0, .int .i64 0, .int .u8 (u[k].toNat : Int)] rfl rfl (pt_new _ _ _ _ _) (pt_one 1 0 0 _) hm1 hm2 ?_; intro g9 cap9 w10 hown10 hgr10 hmv10; have HTT := Lib.hid (Telling.step HPL.out HB.out HV.out HPB.out hx HT.out hown10 hgr10 hmv10); clear hown10 hgr10 hmv10)
        go_roundw
        case rel => exact ⟨k + 1, by omega, by go_num, HTT.out⟩
        case measure => simp [intOf]; omega
      · obtain rfl : k = u.size := by omega
        have HF := Lib.hid (show Telling w u.size u.data.toList u5 wr from ⟨ps, r, hp, hpl, hpb, by rw [List.take_of_length_le (by simp)] at ht; exact ht, hb, hv⟩)
        clear hp hpl hpb ht hb hv
        go_wp2_with fail
        go_meet
        exact HF.out
    -- END lits
  case rest =>
    have HT0 := Lib.hid hcut
    clear hcut HB1
    go_upto_block 2 with (fail)
    go_cut [0, 5, 7] (fun c0 c5 _ wc => ∃ (n : Nat) (L : List UInt8), c0 = .string ⟨L.toArray⟩ ∧ n ≤ 48 ∧ L.length ≤ 2300 ∧ Telling w n L c5 wc ∧ (L = [] → n = 0))
    case first =>
      as_aux_lemma =>
      -- BEGIN matches
      go_wp2_with fail
      go_loopw [0, 5, 7] (fun z v i wr => ∃ (k n : Nat) (L : List UInt8), k ≤ len ∧ k ≤ 8 ∧ i = .int .i64 k ∧ z = .string ⟨L.toArray⟩ ∧ n ≤ 40 + k ∧ L.length ≤ 40 + 273 * k ∧ Telling w n L v wr ∧ (L = [] → n = 0)) (fun _ _ i _ => 8 - (intOf i).toNat)
      case atStart => exact ⟨0, u.size, u.data.toList, by omega, by omega, rfl, rfl, by omega, by simp; omega, HT0.out, fun h => by have := congrArg List.length h; simpa using this⟩
      case round =>
        clear HT0
        obtain ⟨k, n, L, hk, hk8, rfl, rfl, hn, hL, hT, hL0⟩ := hrel
        obtain ⟨U, hU⟩ : ∃ U : ByteArray, U = ⟨L.toArray⟩ := ⟨_, rfl⟩
        have hUs : U.size = L.length := by rw [hU]; simp [ByteArray.size]
        rw [← hU]
        have HU := Lib.hid hU
        have HT := Lib.hid hT
        have HL0 := Lib.hid hL0
        have hu1 : U.size ≤ L.length := by omega
        have hu2 : L.length ≤ U.size := by omega
        clear hU hUs hT hL0
        by_cases hlt : k < len ∧ k < 8 ∧ 0 < L.length
        · obtain ⟨hk1, hk2, hk3⟩ := hlt
          have d8 : decide ((k : Int) < 8) = true := by rw [decide_eq_true_iff]; omega
          have dU : decide (0 < U.size) = true := by rw [decide_eq_true_iff]; omega
          rcases HIS.out.2 with h0 | ⟨b0, off, rfl, hb0, hc⟩
          · omega
          · obtain ⟨x, y, hc0, hc1, hx, hy⟩ := hc k hk1
            have hbl : Below w.heap.size w wr := by obtain ⟨_, _, _, _, _, _, h, _⟩ := HT.out; exact h
            have c0 := (hbl.cell (p := ⟨b0, off + k * 2, none⟩) hb0).trans hc0
            have c1 := (hbl.cell (p := ⟨b0, off + k * 2 + 1, none⟩) hb0).trans hc1
            clear hbl hc hc0 hc1
            go_upto_region 12 with (fail)
            clear d8 dU
            have i1 : (0 : Int) ≤ (k : Int) := by omega
            have i2 : (k : Int) < (len : Int) := by omega
            have hz : ((U.size : Int) == 0) = false := by rw [beq_eq_false_iff_ne]; omega
            have hz2 : ¬ ((U.size : Int) = 0) := by omega
            have et1 : (x : Int).tmod (U.size : Int) = ((x % U.size : Nat) : Int) := by rw [Int.tmod_eq_emod_of_nonneg (by omega)]; simp
            have et2 : (y : Int).tmod 272 = ((y % 272 : Nat) : Int) := by rw [Int.tmod_eq_emod_of_nonneg (by omega)]; simp
            have et3 : (x : Int) % (U.size : Int) = ((x % U.size : Nat) : Int) := by simp
            have et4 : (y : Int) % 272 = ((y % 272 : Nat) : Int) := by simp
            have hxm : x % U.size < U.size := Nat.mod_lt _ (by omega)
            have hym : y % 272 < 272 := Nat.mod_lt _ (by omega)
            generalize x % U.size = xm at *
            generalize y % 272 = ym at *
            have ew1 : IntKind.i64.wrap (1 + (xm : Int)) = 1 + (xm : Int) := IntWalk.i64_in _ (by omega)
            have ew2 : IntKind.i64.wrap (2 + (ym : Int)) = 2 + (ym : Int) := IntWalk.i64_in _ (by omega)
            go_quiet (fail)
            rename_i nq
            clear et1 et2 et3 et4 ew1 ew2 hz hz2 i1 i2
            obtain ⟨ps, r, hp, hpl, hpb, ht, hb, hv⟩ := HT.out
            have HT2 : Hid (Tells (ps ++ [⟨2, ((1 + xm : Nat) : Int), ((2 + ym : Nat) : Int), 0⟩]) (copied L (1 + xm) (2 + ym)) (r.push ((1 + xm : Nat) : Int))) := Lib.hid (ht.copy (1 + xm) (2 + ym) (by omega) (by omega) (by omega) (by omega) (by omega))
            have HP : Hid (wr.ownsRow 0 74 4 u5 n (flatP ps)) := Lib.hid (by rw [← hpl]; exact hp)
            have HPL := Lib.hid hpl
            have HPB := Lib.hid hpb
            have HV := Lib.hid hv
            have HB := Lib.hid hb
            have ed : (1 : Int) + (xm : Int) = ((1 + xm : Nat) : Int) := by omega
            have en : (2 : Int) + (ym : Int) = ((2 + ym : Nat) : Int) := by omega
            rw [ed, en]
            clear ed en hp hpl hpb ht hb hv
            have hd1 : 1 ≤ 1 + xm := by omega
            have hd2 : 1 + xm ≤ L.length := by omega
            have hn1 : 2 + ym ≤ 273 := by omega
            generalize 1 + xm = dd at *
            generalize 2 + ym = nn at *
            have HP2 : Hid ((wr.drewN nq).ownsRow 0 74 4 u5 n (flatP ps)) := Lib.hid HP.out
            have HB2 : Hid (Below w.heap.size w (wr.drewN nq)) := Lib.hid ⟨HB.out.os, HB.out.tape, HB.out.output, HB.out.size, HB.out.block⟩
            clear HP HB HT c0 c1
            generalize wr.drewN nq = W2 at *
            have hm1 : n + 1 ≤ maxLen := by unfold maxLen; omega
            have hm2 : (n + 1) * 32 ≤ 140737488355328 := by omega
            go_upto_block 4 with (at_builtin; refine wpList_append_one _ rfl _ _ 61 rfl 74 i0 (.agg #[.int .i64 0, .int .i64 0, .int .i64 0, .int .u8 0]) 4 32 Try.underlying61 HI.out HZ0.out HZ1.out HZ2.out rfl (by decide) u5 n _ rfl (HP2.out.alloc _) ⟨W2.heap.size, 0, none⟩ 1 [.int .i64 2, .int .i64 (dd : Int), .int .i64 (nn : Int), .int .u8 ((0 : Nat) : Int)] rfl rfl (pt_new _ _ _ _ _) (pt_one 2 _ _ 0) hm1 hm2 ?_; intro g9 cap9 w10 hown10 hgr10 hmv10; have HTT := Lib.hid (Telling.step HPL.out HB2.out HV.out HPB.out (by show 0 < 256; omega) HT2.out hown10 hgr10 hmv10); clear hown10 hgr10 hmv10)
            have HCN : Hid (copied L dd nn = [] → n + 1 = 0) := Lib.hid (fun h => by have := congrArg List.length h; rw [copied_length] at this; have h0 : L.length + nn = 0 := this; omega)
            have hcl2 : (copied L dd nn).length ≤ 40 + 273 * (k + 1) := by rw [copied_length]; omega
            go_wp2_with fail
            go_loop [0, 10] (fun z i => ∃ j : Nat, j ≤ nn ∧ i = .int .i64 j ∧ z = .string ⟨(copied L dd j).toArray⟩) (fun _ i => nn - (intOf i).toNat)
            case atStart => exact ⟨0, by omega, rfl, by rw [HU.out]; rfl⟩
            case round =>
              obtain ⟨j, hj, rfl, rfl⟩ := hrel
              have hU := copied_length L dd j
              have HST := Lib.hid (grow_text L dd j hd1 hd2)
              obtain ⟨U2, hUe⟩ : ∃ U : ByteArray, U = ⟨(copied L dd j).toArray⟩ := ⟨_, rfl⟩
              have hUs : U2.size = L.length + j := by rw [hUe, ← hU]; simp [ByteArray.size]
              rw [← hUe]
              have HUe := Lib.hid hUe
              have hN1 : U2.size ≤ L.length + j := by omega
              have hN2 : L.length + j ≤ U2.size := by omega
              clear hUe hUs hU
              by_cases hjn : j < nn
              · as_aux_lemma =>
                go_wp2_with fail
                go_round
                case rel => exact ⟨j + 1, by omega, by go_num, congrArg Value.string (HST.out U2 HUe.out)⟩
                case measure => simp [intOf]; omega
              · as_aux_lemma =>
                obtain rfl : j = nn := by omega
                go_wp2_with fail
                go_roundw
                case rel => exact ⟨k + 1, n + 1, copied L dd j, by omega, by omega, by go_num, by rw [HUe.out], by omega, hcl2, HTT.out, HCN.out⟩
                case measure => simp [intOf]; omega
        · have HF := Lib.hid (show ∃ (n : Nat) (L' : List UInt8), Value.string U = .string ⟨L'.toArray⟩ ∧ n ≤ 48 ∧ L'.length ≤ 2300 ∧ Telling w n L' u5 wr ∧ (L' = [] → n = 0) from ⟨n, L, by rw [HU.out], by omega, by omega, HT.out, HL0.out⟩)
          have key : (k < len ∧ k < 8 ∧ ¬ 0 < U.size) ∨ (k < len ∧ ¬ k < 8) ∨ ¬ k < len := by omega
          clear hlt
          rcases key with ⟨h1, h2, h3⟩ | ⟨h1, h2⟩ | h1
          · have d8 : decide ((k : Int) < 8) = true := by rw [decide_eq_true_iff]; omega
            have dU : decide (0 < U.size) = false := by rw [decide_eq_false_iff_not]; omega
            clear h2 h3
            go_wp2_with fail
            go_meet
            exact HF.out
          · have d8 : decide ((k : Int) < 8) = false := by rw [decide_eq_false_iff_not]; omega
            clear h2
            go_wp2_with fail
            go_meet
            exact HF.out
          · have d1 : decide (k < len) = false := by rw [decide_eq_false_iff_not]; omega
            clear h1
            go_wp2_with fail
            go_meet
            exact HF.out
      -- END matches
    case rest =>
      -- BEGIN rest
      obtain ⟨n, L, rfl, hn, hL, ⟨ps, r, hp, hpl, hpb, ht, hb, hv⟩, hL0⟩ := hcut
      obtain ⟨a1, cap1, rfl, hip⟩ := hp.slice hpb
      have HB := Lib.hid hb
      have HIP := Lib.hid hip
      have hps : ps.length ≤ 1000 := by omega
      have HA1 := Lib.hid (fun (W : World) (hW : Below wc.heap.size wc W) => apply_any (hip.below hW) hps cap1 1048576 (by omega))
      have HA2 := Lib.hid (fun (W : World) (hW : Below wc.heap.size wc W) => apply_any (hip.below hW) hps cap1 ((L.length : Int) - 1) (by omega))
      have e1 : applyL (1048576 : Int).toNat ps [] ⟨1, 1, 1, 1⟩ = (L, 0) := by rw [ht.end, if_pos (by simp; omega)]
      rw [e1] at HA1
      clear hp hpb hb hv hip HT0 e1
      have hUs : ByteArray.size ⟨L.toArray⟩ = L.length := by simp [ByteArray.size]
      by_cases hLe : L = []
      · subst hLe
        have hps0 : ps = [] := List.eq_nil_of_length_eq_zero (by have := hL0 rfl; omega)
        subst hps0
        have HA3 := Lib.hid (show ∀ (W : World), Below wc.heap.size wc W → Calls Try.prog 36 #[.slice a1 ([] : List Pt).length cap1, .int .i64 (-1)] W fun x w' => x = .returned (.tuple #[.string ⟨#[]⟩, .int .i64 0]) ∧ Below W.heap.size W w' from fun W hW => HA2.out W hW)
        clear hL0 hpl ht hUs HA2
        go_wp2_with fail
        refine (HA1.out _ (Below.refl _ _)).mono ?_
        rintro x w11 ⟨rfl, hb11⟩
        have HB11 := Lib.hid hb11
        clear hb11
        go_wp2_with fail
        refine (HA3.out _ HB11.out).mono ?_
        rintro x w12 ⟨rfl, hb12⟩
        have HB12 := Lib.hid (HB.out.trans ((HB11.out.trans (hb12.mono HB11.out.size)).mono HB.out.size))
        clear hb12
        go_wp2_with fail
        all_goals
          go_ret
          exact ⟨ret_bool (by simp), HB12.out⟩
      · have e2 : applyL ((L.length : Int) - 1).toNat ps [] ⟨1, 1, 1, 1⟩ = ([], 11) := by
          have h0 : 0 < L.length := List.length_pos_iff.2 hLe
          rw [ht.end, if_neg (by omega)]
        rw [e2] at HA2
        have hl0 : 0 < L.length := List.length_pos_iff.2 hLe
        have hl1 : ByteArray.size ⟨L.toArray⟩ ≤ L.length := by omega
        have hl2 : L.length ≤ ByteArray.size ⟨L.toArray⟩ := by omega
        have HUS := Lib.hid hUs
        rw [← hUs] at HA2
        clear e2 hLe hL0 hpl ht hUs
        generalize (⟨L.toArray⟩ : ByteArray) = U at *
        go_wp2_with fail
        refine (HA1.out _ (Below.refl _ _)).mono ?_
        rintro x w11 ⟨rfl, hb11⟩
        have HB11 := Lib.hid hb11
        clear hb11
        go_wp2_with fail
        refine (HA2.out _ HB11.out).mono ?_
        rintro x w12 ⟨rfl, hb12⟩
        have HB12 := Lib.hid (HB.out.trans ((HB11.out.trans (hb12.mono HB11.out.size)).mono HB.out.size))
        clear hb12
        have d0 : ((U.size : Int) == 0) = false := by rw [beq_eq_false_iff_ne]; omega
        go_wp2_with fail
        all_goals first
          | (go_ret; exact ⟨ret_bool (by simp), HB12.out⟩)
          | (exfalso; rename_i he; subst he; simp at hl2; omega)
      -- END rest
end Go.Proofs.Ythejbnodalnnpaa.Pk
