/-
  Package greedy: the contract of Parse.
-/
import Derived.Test.YthdjnbhdgacmgaaGreatPiece
import Derived.Test.YthdjnbhdgacmgaaGreatHeldP
import Derived.Test.YthdjnbhdgacmgaaGreatPackRepeatNil
import Derived.Deep.RegionHeld3
import Derived.StillTailTactics
set_option linter.unusedVariables false
namespace Go.Proofs.YthdjnbhdgacmgaaGreat.Gr
open Go.RowKit
open Mt
open Ch (foundL bt bt_at bt_lt)
open Pk (Rp Pt IsPts repL)
open Mo (HeldP)
/-- A finder of pieces and a list of packets, since w0. -/
structure GrAt (w0 w : World) (O : Paint) (F : Nat) (s : ByteArray) (window cut : Int) (p : Nat) (v : Value) (l : List Pt) : Prop where
  below : Below w0.heap.size w0 w
  clear : Clear w0.heap.size O
  pi : PiAt w O F s window cut p
  held : HeldP w O 7 v l
section
variable {cs : List Nat} {w0 w w' : World} {O O' : Paint} {F p : Nat} {s : ByteArray} {window cut : Int} {v : Value} {l : List Pt}
theorem GrAt.step (h : GrAt w0 w O F s window cut p v l) (hs : Step cs w O w' O') (h0 : 0 ∉ cs) (h1 : 1 ∉ cs) (h2 : 2 ∉ cs) (h7 : 7 ∉ cs) : GrAt w0 w' O' F s window cut p v l :=
  ⟨h.clear.below hs h0 h.below.size h.below, h.clear.step hs h.below.size, h.pi.step hs h1 h2, h.held.step hs h7⟩
theorem GrAt.idle (h : GrAt w0 w O F s window cut p v l) (hs : Step [] w O w' O') : GrAt w0 w' O' F s window cut p v l := h.step hs (by simp) (by simp) (by simp) (by simp)
theorem GrAt.news (h : GrAt w0 w O F s window cut p v l) (hb : Below w.heap.size w w') : GrAt w0 w' (Step.paint O w 3) F s window cut p v l := h.idle (Step.of_below hb O 3)
theorem GrAt.next (h : GrAt w0 w O F s window cut p v l) {q : Nat} (hs : Step [1] w O w' O') (hp : PiAt w' O' F s window cut q) : GrAt w0 w' O' F s window cut q v l :=
  ⟨h.clear.below hs (by simp) h.below.size h.below, h.clear.step hs h.below.size, hp, h.held.step hs (by simp)⟩
theorem GrAt.more {o : Obj} {g n cap : Nat} {q : Pt} (h : GrAt w0 w O F s window cut p v l) (hn : l.length = n) (hr : w'.ownsRow 0 49 4 (.slice (some ⟨g, 0, none⟩) (n + 1) cap) (n + 1) (Pl.flatP l ++ [.int .i64 q.k, .int .i64 q.d, .int .i64 q.n, .int .u8 (q.b : Int)])) (hg : (w.alloc o).grownBy w' v.ownBlock) (hm : Moved (w.alloc o) v (.slice (some ⟨g, 0, none⟩) (n + 1) cap)) :
    GrAt w0 w' (Step.paint O w 7) F s window cut p (.slice (some ⟨g, 0, none⟩) (n + 1) cap) (l ++ [q]) ∧ Step [7] w O w' (Step.paint O w 7) := by
  obtain ⟨hs, hh⟩ := h.held.more hn hr hg hm
  exact ⟨⟨h.clear.below hs (by simp) h.below.size h.below, h.clear.step hs h.below.size, h.pi.step hs (by simp) (by simp), hh⟩, hs⟩
end
/-- A list of packets was handed back. -/
def Told (w : World) (qs : List Pt) (x : Ending) (w' : World) : Prop := ∃ Z, x = .returned (.slice (some ⟨Z, 0, none⟩) qs.length qs.length) ∧ Below w.heap.size w w' ∧ IsPts w' (some ⟨Z, 0, none⟩) qs
theorem again_any {w0 w : World} {a : Option Addr} {ps : List Pt} {cap : Nat} (hb0 : Below w0.heap.size w0 w) (h : IsPts w a ps) (hl : ps.length ≤ 1000) (hb : ∀ p ∈ repL ps 0 ⟨1, 1, 1, 1⟩ ⟨1, 1, 1, 1⟩, p.b < 256) (hlen : (repL ps 0 ⟨1, 1, 1, 1⟩ ⟨1, 1, 1, 1⟩).length = ps.length) :
    Calls Tryz.prog 29 #[.slice a ps.length cap] w (Told w0 (repL ps 0 ⟨1, 1, 1, 1⟩ ⟨1, 1, 1, 1⟩)) := by
  by_cases hn : 0 < ps.length
  · rcases h with h | ⟨b, off, rfl, h⟩
    · rw [h] at hn; simp at hn
    · refine (Pk.repeat_more h hn hl cap).mono fun x w' ⟨Z, hx, hb', _, arr, g1, g2, g3⟩ => ⟨Z, by rw [hlen]; exact hx, hb0.trans (hb'.mono hb0.size), .inr ⟨Z, 0, rfl, fun i hi => ?_⟩⟩
      obtain ⟨q0, q1, q2, q3⟩ := g3 i hi
      refine ⟨?_, ?_, ?_, ?_, hb _ (List.getElem_mem hi)⟩
      · simp only [World.cell?, g1, Nat.zero_add]; exact q0
      · simp only [World.cell?, g1, Nat.zero_add]; exact q1
      · simp only [World.cell?, g1, Nat.zero_add]; exact q2
      · simp only [World.cell?, g1, Nat.zero_add]; exact q3
  · obtain rfl : ps = [] := by cases ps <;> simp_all
    exact (Pk.repeat_nil a cap w).mono fun x w' ⟨Z, hx, hb', _⟩ => ⟨Z, hx, hb0.trans (hb'.mono hb0.size), .inl rfl⟩
/-- What the pieces are told as. -/
def told (s : ByteArray) (c : Nat → Nat × Nat) : List Pt := repL (parse s c 0) 0 ⟨1, 1, 1, 1⟩ ⟨1, 1, 1, 1⟩
theorem told_facts {s : ByteArray} {c : Nat → Nat × Nat} (hc : ∀ p, OkPiece s p (c p)) (hs : s.size ≤ 1048576) : told s c = Pk.rrep (parse s c 0) ⟨1, 1, 1, 1⟩ ⟨1, 1, 1, 1⟩ ∧ (told s c).length = (parse s c 0).length ∧ ∀ p ∈ told s c, p.b < 256 := by
  have h := (parse_rep hc hs).1
  refine ⟨h, ?_, ?_⟩
  · unfold told; rw [h, Pk.rrep_length]
  · unfold told; rw [h]; exact Pk.rrep_bytes _ _ _ (parse_bytes s c 0)
set_option maxRecDepth 100000 in
set_option maxHeartbeats 4000000 in
theorem greedy_any (s : ByteArray) (window cut : Int) (w : World) (hs : s.size ≤ 1000) (hw0 : -9223372036854775808 ≤ window) (hw1 : window ≤ 9223372036854775807) (hc1 : cut ≤ 9223372036854775807) :
    Calls Tryz.prog 32 #[.string s, .int .i64 window, .int .i64 cut] w (Told w (told s (best s window cut))) := by
  have hc := best_ok s window cut
  have HC := Lib.hid hc
  have HNX : Hid (∀ (wr : World) (O : Paint) (F k : Nat), PiAt wr O F s window cut k → Calls Tryz.prog 64 #[.pointer (some ⟨F, 0, none⟩)] wr fun x w' => x = .returned (pv (best s window cut k)) ∧ ∃ O', Step [1] wr O w' O' ∧ PiAt w' O' F s window cut (min (k + 1) s.size)) :=
    Lib.hid (fun wr O F k h => pnext_any h (by omega) hw0 hw1 hc1)
  have HTF := Lib.hid (told_facts hc (by omega))
  have HPN := Lib.hid (pnew_any w (fun _ => 0) s window cut (by omega))
  clear hc hw0 hw1 hc1
  go_enter Tryz.func32, Tryz.ntmps32
  go_wp2_with fail
  refine HPN.out.mono ?_
  rintro x w2 ⟨F, O2, rfl, hs2, hP⟩
  have HL0 : Hid (GrAt w w2 O2 F s window cut 0 (.slice none 0 0) []) := Lib.hid ⟨Clear.below (fun _ _ => rfl) hs2 (by simp) (Nat.le_refl _) (Below.refl _ _), Clear.step (fun _ _ => rfl) hs2 (Nat.le_refl _), hP, HeldP.nil _ _ _⟩
  clear hs2 hP HPN
  generalize hcd : best s window cut = c at *
  clear hcd
  go_wp2_with fail
  go_loopw [8, 9] (fun v i wr => ∃ (k : Nat) (l : List Pt) (O : Paint), k ≤ s.size ∧ i = .int .i64 k ∧ GrAt w wr O F s window cut k v l ∧ l ++ parse s c k = parse s c 0 ∧ l.length ≤ k) (fun _ i _ => s.size - (intOf i).toNat)
  case atStart => exact ⟨0, [], O2, by omega, rfl, HL0.out, rfl, by simp⟩
  case round =>
    clear HL0
    obtain ⟨k, l, O, hk, rfl, hL, hE, hll⟩ := hrel
    obtain ⟨wo, rfl⟩ : ∃ wo : World, wo = wr := ⟨_, rfl⟩
    by_cases hlt : k < s.size
    · have HE := Lib.hid (show (l ++ [pkt s k (c k)]) ++ parse s c (k + size1 (c k)) = parse s c 0 by rw [← hE, parse_more HC.out hlt]; simp)
      have h1 := size1_pos (HC.out k)
      have h2 := size1_le hlt (HC.out k)
      have HN1 := Lib.hid (HNX.out wo O F k hL.pi)
      have HPV : Hid (pv (c k) = .agg #[.int .i64 ((c k).1 : Int), .int .i64 ((c k).2 : Int)]) := Lib.hid rfl
      have HSZ := Lib.hid (fun W => psize_any (c k) W)
      have HPK := Lib.hid (fun W => ppacket_any (bt s k) (c k) W)
      rw [HPV.out] at HN1
      have hbk := bt_at hlt
      have HL := Lib.hid hL
      have HPKT : Hid (pkt s k (c k) = pktB (bt s k) (c k)) := Lib.hid rfl
      rw [HPKT.out] at HE
      clear hE hL HPV HPKT
      generalize (c k).1 = xn at *
      generalize (c k).2 = xd at *
      generalize size1 (c k) = sz at *
      generalize pktB (bt s k) (c k) = pk at *
      go_wp2_with fail
      refine HN1.out.mono ?_
      rintro x w3 ⟨rfl, O3, hs3, hP3⟩
      rw [show min (k + 1) s.size = k + 1 from by omega] at hP3
      have hL3 := HL.out.next hs3 hP3
      have hb4 : Below w3.heap.size w3 (w3.alloc (.cells #[.int .i64 (xn : Int), .int .i64 (xd : Int)] 121)) := (Below.refl _ _).alloc (Nat.le_refl _) _
      have hL4 := hL3.news hb4
      have hx4 : Blk _ (Step.paint O3 w3 3) 3 _ _ := ⟨heap_alloc_new w3 (.cells #[.int .i64 (xn : Int), .int .i64 (xd : Int)] 121), Step.paint_new (Nat.le_refl _)⟩
      clear hs3 hP3 hL3 hb4 HN1 HL
      go_upto_region 6 with (fail)
      generalize w3.alloc (.cells #[.int .i64 (xn : Int), .int .i64 (xd : Int)] 121) = w4 at *
      generalize Step.paint O3 w3 3 = O4 at *
      generalize w3.heap.size = X at *
      have HL4 := Lib.hid hL4
      have HX4 := Lib.hid hx4
      have e1 : (0 : Int) ≤ (k : Int) := by omega
      have e2 : (k : Int) < (s.size : Int) := by omega
      have HS : Hid (∀ W', (∃ O', Step [7] w4 O4 W' O') → (∃ O', Step [7] w4 O4 W' O') ∧ (W'.cell? ⟨X, 0, none⟩ = some (.int .i64 (xn : Int)) ∧ W'.cell? ⟨X, 1, none⟩ = some (.int .i64 (xd : Int)))) := Lib.hid (fun W' h => by
        obtain ⟨O', hq⟩ := h
        exact ⟨⟨O', hq⟩, (two_cells (HX4.out.step hq (by simp)).1).1⟩)
      have HR : Hid (∀ W, Below w4.heap.size w4 W → W.ownsRow 0 49 4 u8 l.length (Pl.flatP l)) := Lib.hid (fun W hb => (HL4.out.news hb).held.row)
      have HRC : Hid (∀ k, u8.ownBlock = some k → O4 k ∈ [7]) := Lib.hid (fun k hk => by rw [HL4.out.held.paint k hk]; simp)
      have S0 : ∃ O', Step [7] w4 O4 w4.drew O' := ⟨O4, (Step.refl _ _ _).drew⟩
      obtain ⟨i0, hi, hz0, hz1, hz2⟩ := info_parts Pl.infoPk
      have hm1 : l.length + 1 ≤ maxLen := by unfold maxLen; omega
      have hm2 : (l.length + 1) * 32 ≤ 140737488355328 := by omega
      rw [← hbk] at HPK
      clear hL4 hx4 hbk
      go_region_held3 (fun W' => (∃ O', Step [7] w4 O4 W' O') ∧ (W'.cell? ⟨X, 0, none⟩ = some (.int .i64 (xn : Int)) ∧ W'.cell? ⟨X, 1, none⟩ = some (.int .i64 (xd : Int)))) ((refine HS.out _ ?_; first | assumption | exact Mo.qal _ (by assumption))) (first | (go_at_call 65; (with_reducible refine (HPK.out _).mono ?_); rintro x w6 ⟨rfl, hb6⟩; have hq6 := Mo.qbel S0 hb6; unfold Pt.val) | (refine Mo.step_append_pt _ rfl (.tmp 21) (.tmp 27) 58 rfl 49 i0 (.agg #[.int .i64 0, .int .i64 0, .int .i64 0, .int .u8 0]) 4 32 Tryz.underlying58 hi hz0 hz1 hz2 rfl (by decide) u8 l.length _ rfl (HR.out _ (Pk.bel_alloc _ (Pk.bel_new hb6 (Pk.bel_drew (Below.refl _ _))))) ⟨w6.heap.size, 0, none⟩ 1 1 (by decide) [.int .i64 pk.k, .int .i64 pk.d, .int .i64 pk.n, .int .u8 (pk.b : Int)] rfl rfl (Pl.pt_news (heap_alloc_new _ _)) (Pl.pt_one _ _ _ _) hm1 hm2 ?_; intro g7 cap7 w7 hown7 hgr7 hmv7; have hq7 := Mo.qgrow (Mo.qal _ hq6) hgr7 HRC.out))
      have hb46 := Pk.bel_new hb6 (Pk.bel_drew (Below.refl w4.heap.size w4))
      have hL6 := HL4.out.news hb46
      have hX6 := HX4.out.step (Step.of_below hb46 O4 3) (by simp)
      obtain ⟨hL7, hs7⟩ := hL6.more rfl hown7 hgr7 hmv7
      have hX7 := hX6.step hs7 (by simp)
      generalize Step.paint (Step.paint O4 w4 3) w6 7 = O7 at *
      clear hb46 hL6 hX6 hs7 hb6 hq6 hown7 hgr7 hmv7 hq7 S0 HS HR HRC HL4 HX4 HPK hi hz0 hz1 hz2
      obtain ⟨m, hm⟩ : ∃ m, sz = m + 1 := ⟨sz - 1, by omega⟩
      subst hm
      have hwk : IntKind.i64.wrap ((k : Int) + ((m + 1 : Nat) : Int)) = (k : Int) + ((m + 1 : Nat) : Int) := by rw [IntKind.wrap_i64]; omega
      have hwm : IntKind.i64.wrap (((m + 1 : Nat) : Int) - 1) = (m : Int) := by rw [IntKind.wrap_i64]; omega
      obtain ⟨⟨p0, p1⟩, _, _, hXl⟩ := two_cells hX7.1
      have HL7 := Lib.hid hL7
      have HX7 := Lib.hid hX7
      clear hL7 hX7
      go_wp2_with fail
      refine (HSZ.out _).mono ?_
      rintro x w8 ⟨rfl, hb8⟩
      have HL8 := Lib.hid (HL7.out.news hb8)
      have hX8 := HX7.out.step (Step.of_below hb8 O7 3) (by simp)
      obtain ⟨⟨p0, p1⟩, _, _, hXl⟩ := two_cells hX8.1
      generalize Step.paint O7 w7 3 = O8 at *
      clear hb8 HL7 HX7
      go_wp2_with fail
      refine (HSZ.out _).mono ?_
      rintro x w9 ⟨rfl, hb9⟩
      have HL9 := Lib.hid (HL8.out.news hb9)
      generalize Step.paint O8 w8 3 = O9 at *
      clear hb9 hX8 p0 p1 HL8 HSZ
      go_wp2_with fail
      go_loopw [36] (fun i wr => ∃ (j : Nat) (O : Paint), j ≤ m ∧ i = .int .i64 j ∧ GrAt w wr O F s window cut (k + 1 + j) (.slice (some ⟨g7, 0, none⟩) (l.length + 1) cap7) (l ++ [pk])) (fun i _ => m - (intOf i).toNat)
      case atStart => exact ⟨0, O9, by omega, rfl, HL9.out⟩
      case round =>
        clear HL9
        obtain ⟨j, O, hj, rfl, hL⟩ := hrel
        by_cases hjm : j < m
        · have HN1 := Lib.hid (HNX.out _ O F _ hL.pi)
          have HL := Lib.hid hL
          clear hL HNX
          go_wp2_with fail
          refine HN1.out.mono ?_
          rintro x w10 ⟨rfl, O10, hs10, hP10⟩
          rw [show min (k + 1 + j + 1) s.size = k + 1 + (j + 1) from by omega] at hP10
          have HL10 := Lib.hid (HL.out.next hs10 hP10)
          clear hs10 hP10 HN1 HL
          go_wp2_with fail
          go_roundw
          case rel => exact ⟨j + 1, O10, by omega, by go_num, HL10.out⟩
          case measure => simp [intOf]; omega
        · obtain rfl : j = m := by omega
          have HL := Lib.hid hL
          clear hL HNX
          rw [show k + 1 + j = k + (j + 1) from by omega] at HL
          go_wp2_with fail
          go_roundw
          case rel => exact ⟨k + (j + 1), l ++ [pk], O, by omega, by go_num, HL.out, HE.out, by simp; omega⟩
          case measure => simp [intOf]; omega
    · obtain rfl : k = s.size := by omega
      rw [parse_end (Nat.le_refl _), List.append_nil] at hE
      subst hE
      obtain ⟨A, cap, rfl, hpts⟩ := hL.held.pts (parse_bytes s c 0)
      obtain ⟨h1, h2, h3⟩ := HTF.out
      have HAG := Lib.hid (again_any (cap := cap) hL.below hpts (by have := parse_length s c 0; omega) h3 h2)
      clear hL HNX HTF hpts h1 h2 h3
      go_wp2_with fail
      refine HAG.out.mono ?_
      rintro x w3 ⟨Z, rfl, hb3, hI3⟩
      have HE : Hid (Told w (told s c) (.returned (.slice (some ⟨Z, 0, none⟩) (repL (parse s c 0) 0 ⟨1, 1, 1, 1⟩ ⟨1, 1, 1, 1⟩).length (repL (parse s c 0) 0 ⟨1, 1, 1, 1⟩ ⟨1, 1, 1, 1⟩).length)) w3) := Lib.hid ⟨Z, rfl, hb3, hI3⟩
      clear hb3 hI3 HAG
      go_wp2_with fail
      go_ret
      exact HE.out
end Go.Proofs.YthdjnbhdgacmgaaGreat.Gr
