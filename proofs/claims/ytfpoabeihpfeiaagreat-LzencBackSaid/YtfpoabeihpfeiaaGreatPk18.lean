/-
  Package model: distances as bits: contracts of distances.code, put.
  Package model: distances as bits: contracts of distances.code, got.
-/
import Derived.Test.YtfpoabeihpfeiaaGreatPk14
import Derived.Deep.RegionHeld3
import Derived.BigRegion
import Derived.StillTailTactics
set_option maxRecDepth 100000
set_option maxHeartbeats 16000000
set_option linter.unusedVariables false
set_option linter.unusedSimpArgs false
open Go.Lib (hid)
section
namespace Go.Proofs.YtfpoabeihpfeiaaGreat.Mo
open Go.RowKit
open Rc
section
variable {w : World} {O : Paint} {c cm a tot k gb cap nb : Nat} {tb : Nat -> Nat -> Nat} {s : Es} {d : Ds}
theorem dist_enc_near (h : EncS w O c cm a k gb cap nb tb s) (ht : s.e.turns <= 700000) (ln : Int) (hl0 : -9223372036854775808 <= ln) (hl1 : ln <= 9223372036854775807) (cl : Nat) (hcl : min (max ln 2) 5 - 2 = (cl : Int)) (dist : Int) (v : Nat) (hv : v < 4294967296)
  (e0 : IntKind.i64.wrap (dist - 1) = dist - 1) (e1 : IntKind.u32.wrap (dist - 1) = (v : Int)) (hs14 : St.slot v < 14) :
  Calls Tryz.prog 76 #[.pointer (some ⟨k, 503, none⟩), .iface 114 (.agg #[.pointer (some ⟨a, 0, none⟩)]), .int .i64 ln, .int .i64 dist] w (EncTo w O c cm a k gb cap nb tb (s.dist cl v) (.int .i64 (((v + 1) % 4294967296 : Nat) : Int))) := by
 have hsl := St.slot_lt hv
 obtain ⟨hb1, hb2⟩ := St.base_slot v
 have HE := hid (show s.dist cl v = (s.num 300 cl 6 (St.slot v)).bk 310 (St.slot v) (St.more (St.slot v)) (v - St.base (St.slot v)) by unfold Es.dist; rw [if_pos hs14])
 have n_number : ∀ W : World, (nilAhead 310 114 (.agg #[.pointer (some ⟨a, 0, none⟩)]) "cassone/model.number").run Tryz.prog W = .ok (some false) W := fun _ => by kernel_rfl
 have m_number : ∀ W : World, (method 310 114 (.agg #[.pointer (some ⟨a, 0, none⟩)]) "cassone/model.number").run Tryz.prog W = .ok (122, .agg #[.pointer (some ⟨a, 0, none⟩)]) W := fun _ => by kernel_rfl
 have n_back : ∀ W : World, (nilAhead 310 114 (.agg #[.pointer (some ⟨a, 0, none⟩)]) "cassone/model.back").run Tryz.prog W = .ok (some false) W := fun _ => by kernel_rfl
 have m_back : ∀ W : World, (method 310 114 (.agg #[.pointer (some ⟨a, 0, none⟩)]) "cassone/model.back").run Tryz.prog W = .ok (118, .agg #[.pointer (some ⟨a, 0, none⟩)]) W := fun _ => by kernel_rfl
 have hm := more_le (St.slot v) hsl
 have HBASE := hid (base_nat (St.slot v) hsl)
 have hbl := St.base_lt hsl
 have hc4 : cl < 4 := by omega
 have HCL := hid (St.class_any ln hl0 hl1)
 rw [hcl] at HCL
 have l300 : tlen 300 cl = 64 := rfl
 have HSLOT := hid (St.slot_any v hv)
 have HN := hid (enc_number (x := 300) (y := cl) (n := 6) (capv := 64) h.drew (by omega) (by unfold isTree; omega) (by rw [l300]; omega) (by omega) (St.slot v) (by omega))
 rw [show (2 : Nat) ^ 6 = 64 from rfl] at HN
 have hT1 := tr_turns6 s 300 cl (St.slot v)
 rw [show s.tr false 300 cl (tlen 300 cl) 6 (St.slot v) = s.num 300 cl 6 (St.slot v) from rfl] at HN
 have hc0 : ∀ (W : World) (O' : Paint) (s' : Es), EncS W O' c cm a k gb cap nb tb s' -> W.cell? ⟨k, 503 + cl, none⟩ = some (.slice (some ⟨tb 300 cl, 0, none⟩) 64 64) := fun W O' s' h => h.lik.tree 300 cl (by unfold isTree; omega) (by omega)
 have HC0 := hid hc0
 have T1 := hid (hc0 _ _ _ h.drew)
 have c0 := hc0 _ _ _ h
 generalize s.num 300 cl 6 (St.slot v) = s1 at *
 generalize s.dist cl v = sf at *
 generalize St.slot v = sl at *
 have hbt := base_top sl hsl
 have hbsm := base_small sl
 generalize St.base sl = bs at *
 generalize hmoe : St.more sl = mo at *
 have HMO := hid hmoe
 clear hmoe
 have f1 : IntKind.u32.wrap ((v : Int) - (bs : Int)) = (v : Int) - (bs : Int) := by rw [IntKind.wrap_u32]; omega
 have f2 : IntKind.i64.wrap ((v : Int) - (bs : Int)) = (v : Int) - (bs : Int) := IntWalk.i64_in _ (by omega)
 have f3 : (v : Int) - (bs : Int) = ((v - bs : Nat) : Int) := by omega
 have f4 : IntKind.u32.wrap ((v : Int) - (bs : Int)) = ((v - bs : Nat) : Int) := by rw [f1, f3]
 have f5 : IntKind.u32.wrap ((bs : Int) + ((v - bs : Nat) : Int)) = (v : Int) := by rw [IntKind.wrap_u32]; omega
 have f6 : IntKind.i64.wrap ((v - bs : Nat) : Int) = ((v - bs : Nat) : Int) := IntWalk.i64_in _ (by omega)
 have f7 : IntKind.u32.wrap ((v - bs : Nat) : Int) = ((v - bs : Nat) : Int) := by rw [IntKind.wrap_u32]; omega
 have f8 : IntKind.u32.wrap ((v : Int) + 1) = (((v + 1) % 4294967296 : Nat) : Int) := by rw [IntKind.wrap_u32]; omega
 have hres : (v + 1) % 4294967296 < 4294967296 := Nat.mod_lt _ (by omega)
 clear f3 f1 f2
 have HVR := hid hv
 have HB1 := hid hb1
 have HB2 := hid hb2
 clear hv hb1 hb2 hbl
 obtain ⟨x0, hx0⟩ : ∃ x0, x0 = v - bs := ⟨_, rfl⟩
 have HX0 := hid hx0
 rw [<- hx0] at f4 f5 f6 f7 HB2 HE
 obtain ⟨res, hre⟩ : ∃ res, res = (v + 1) % 4294967296 := ⟨_, rfl⟩
 rw [<- hre] at f8 hres
 rw [<- hre]
 have HRE := hid hre
 clear hx0 hre
 have f9 : ∀ r : Nat, r < 4294967296 -> IntKind.i64.wrap (r : Int) = (r : Int) := fun r h => IntWalk.i64_in _ (by omega)
 have F9 := hid f9
 have q1 : (0 : Int) <= (cl : Int) := by omega
 have q2 : (cl : Int) < 4 := by omega
 have q3 : (cl : Int).toNat = cl := by omega
 clear f9 h
 go_enter Tryz.func76, Tryz.ntmps76
 go_upto_region 2 with (fail)
 go_cut [10] (fun v10 wc => v10 = .int .i64 sl /\ ∃ O', Step [c, cm] w O wc O' /\ EncS wc O' c cm a k gb cap nb tb s1)
 case first =>
  as_aux_lemma =>
  go_region_held3 (fun W => W.cell? ⟨k, 503 + cl, none⟩ = some (.slice (some ⟨tb 300 cl, 0, none⟩) 64 64)) (first | exact T1.out | exact HC0.out _ _ _ ‹_› | go_keep) (first | (go_at_call 88; (with_reducible refine (HCL.out _).mono ?_); rintro x w1 ⟨rfl, rfl⟩) | (go_at_call 89; (with_reducible refine (HSLOT.out _).mono ?_); rintro x w1 ⟨rfl, rfl⟩) | (go_at_call 122; (with_reducible refine HN.out.mono ?_); rintro x w2 ⟨rfl, O2, hs2, he2⟩))
  all_goals
   go_wp2_with fail
   go_meet
   exact ⟨rfl, O2, hs2.from_drew, he2⟩
 case rest =>
  obtain ⟨rfl, O1, hs1, he1⟩ := hcut
  have HS1 := hid hs1
  clear hs1 HN T1 c0 hc0 HC0
  go_wp2_with fail
  refine (HBASE.out _).mono ?_
  rintro x w1 ⟨rfl, rfl⟩
  have z1 : decide ((sl : Int) < 14) = true := by simp; omega
  have hsl14 : sl < 14 := hs14
  have hmo := hm.2.2 hs14
  have l310 : tlen 310 sl = 2 ^ St.more sl := rfl
  have hc1 : ∀ (W : World) (O' : Paint) (s' : Es), EncS W O' c cm a k gb cap nb tb s' -> W.cell? ⟨k, 507 + sl, none⟩ = some (.slice (some ⟨tb 310 sl, 0, none⟩) (tlen 310 sl) (tcap 310 sl)) := fun W O' s' h => h.lik.tree 310 sl (by unfold isTree; omega) (by omega)
  have HC1 := hid hc1
  have T2 := hid (hc1 _ _ _ he1.drew)
  have c1 := hc1 _ _ _ he1
  clear hc1
  have HB := hid (enc_back (x := 310) (y := sl) (n := mo) he1.drew (by omega) (by unfold isTree; omega) (by rw [l310, HMO.out]) (by omega) x0 (by exact HB2.out))
  rw [show s1.tr true 310 sl (tlen 310 sl) mo x0 = s1.bk 310 sl mo x0 from rfl] at HB
  generalize s1.bk 310 sl mo x0 = s2 at *
  generalize tlen 310 sl = L at *
  generalize tcap 310 sl = C at *
  have HS14 := hid hs14
  clear hm hbt hbsm hs14 hsl14 hmo he1 l310
  have r1 : (0 : Int) <= (sl : Int) := by omega
  have r2 : (sl : Int) < 14 := by have := HS14.out; omega
  have r3 : (sl : Int).toNat = sl := by omega
  go_wp2_with fail
  go_cut [9] (fun v9 wd => v9 = .int .u32 v /\ ∃ O', Step [c, cm] w O wd O' /\ EncS wd O' c cm a k gb cap nb tb s2)
  case first =>
   as_aux_lemma =>
   go_region_held3 (fun W => W.cell? ⟨k, 507 + sl, none⟩ = some (.slice (some ⟨tb 310 sl, 0, none⟩) L C)) (first | exact T2.out | exact HC1.out _ _ _ ‹_› | go_keep) (first | (go_at_call 118; (with_reducible refine HB.out.mono ?_); rintro x w2 ⟨rfl, O4, hs2, he2⟩))
   all_goals
    go_wp2_with fail
    go_meet
    exact ⟨rfl, O4, HS1.out.trans hs2.from_drew, he2⟩
  case rest =>
  obtain ⟨rfl, O4, hs2, he2⟩ := hcut
  have HS2 := hid hs2
  have HE2 := hid he2
  clear hs2 he2 HB T2 HC1
  have g9 := F9.out res hres
  go_wp2_with fail
  go_ret
  exact ⟨rfl, O4, HS2.out, by rw [HE.out]; exact HE2.out⟩
theorem dist_enc_far (h : EncS w O c cm a k gb cap nb tb s) (ht : s.e.turns <= 700000) (ln : Int) (hl0 : -9223372036854775808 <= ln) (hl1 : ln <= 9223372036854775807) (cl : Nat) (hcl : min (max ln 2) 5 - 2 = (cl : Int)) (dist : Int) (v : Nat) (hv : v < 4294967296)
  (e0 : IntKind.i64.wrap (dist - 1) = dist - 1) (e1 : IntKind.u32.wrap (dist - 1) = (v : Int)) (hs14 : ¬ St.slot v < 14) :
  Calls Tryz.prog 76 #[.pointer (some ⟨k, 503, none⟩), .iface 114 (.agg #[.pointer (some ⟨a, 0, none⟩)]), .int .i64 ln, .int .i64 dist] w (EncTo w O c cm a k gb cap nb tb (s.dist cl v) (.int .i64 (((v + 1) % 4294967296 : Nat) : Int))) := by
 have hsl := St.slot_lt hv
 obtain ⟨hb1, hb2⟩ := St.base_slot v
 have HE := hid (show s.dist cl v = (s.num 300 cl 6 (St.slot v)).far (v - St.base (St.slot v)) (St.more (St.slot v)) by unfold Es.dist; rw [if_neg hs14])
 have n_number : ∀ W : World, (nilAhead 310 114 (.agg #[.pointer (some ⟨a, 0, none⟩)]) "cassone/model.number").run Tryz.prog W = .ok (some false) W := fun _ => by kernel_rfl
 have m_number : ∀ W : World, (method 310 114 (.agg #[.pointer (some ⟨a, 0, none⟩)]) "cassone/model.number").run Tryz.prog W = .ok (122, .agg #[.pointer (some ⟨a, 0, none⟩)]) W := fun _ => by kernel_rfl
 have n_back : ∀ W : World, (nilAhead 310 114 (.agg #[.pointer (some ⟨a, 0, none⟩)]) "cassone/model.back").run Tryz.prog W = .ok (some false) W := fun _ => by kernel_rfl
 have m_back : ∀ W : World, (method 310 114 (.agg #[.pointer (some ⟨a, 0, none⟩)]) "cassone/model.back").run Tryz.prog W = .ok (118, .agg #[.pointer (some ⟨a, 0, none⟩)]) W := fun _ => by kernel_rfl
 have hm := more_le (St.slot v) hsl
 have HBASE := hid (base_nat (St.slot v) hsl)
 have hbl := St.base_lt hsl
 have hc4 : cl < 4 := by omega
 have HCL := hid (St.class_any ln hl0 hl1)
 rw [hcl] at HCL
 have l300 : tlen 300 cl = 64 := rfl
 have HSLOT := hid (St.slot_any v hv)
 have HN := hid (enc_number (x := 300) (y := cl) (n := 6) (capv := 64) h.drew (by omega) (by unfold isTree; omega) (by rw [l300]; omega) (by omega) (St.slot v) (by omega))
 rw [show (2 : Nat) ^ 6 = 64 from rfl] at HN
 have hT1 := tr_turns6 s 300 cl (St.slot v)
 rw [show s.tr false 300 cl (tlen 300 cl) 6 (St.slot v) = s.num 300 cl 6 (St.slot v) from rfl] at HN
 have hc0 : ∀ (W : World) (O' : Paint) (s' : Es), EncS W O' c cm a k gb cap nb tb s' -> W.cell? ⟨k, 503 + cl, none⟩ = some (.slice (some ⟨tb 300 cl, 0, none⟩) 64 64) := fun W O' s' h => h.lik.tree 300 cl (by unfold isTree; omega) (by omega)
 have HC0 := hid hc0
 have T1 := hid (hc0 _ _ _ h.drew)
 have c0 := hc0 _ _ _ h
 generalize s.num 300 cl 6 (St.slot v) = s1 at *
 generalize s.dist cl v = sf at *
 generalize St.slot v = sl at *
 have hbt := base_top sl hsl
 have hbsm := base_small sl
 generalize St.base sl = bs at *
 generalize hmoe : St.more sl = mo at *
 have HMO := hid hmoe
 clear hmoe
 have f1 : IntKind.u32.wrap ((v : Int) - (bs : Int)) = (v : Int) - (bs : Int) := by rw [IntKind.wrap_u32]; omega
 have f2 : IntKind.i64.wrap ((v : Int) - (bs : Int)) = (v : Int) - (bs : Int) := IntWalk.i64_in _ (by omega)
 have f3 : (v : Int) - (bs : Int) = ((v - bs : Nat) : Int) := by omega
 have f4 : IntKind.u32.wrap ((v : Int) - (bs : Int)) = ((v - bs : Nat) : Int) := by rw [f1, f3]
 have f5 : IntKind.u32.wrap ((bs : Int) + ((v - bs : Nat) : Int)) = (v : Int) := by rw [IntKind.wrap_u32]; omega
 have f6 : IntKind.i64.wrap ((v - bs : Nat) : Int) = ((v - bs : Nat) : Int) := IntWalk.i64_in _ (by omega)
 have f7 : IntKind.u32.wrap ((v - bs : Nat) : Int) = ((v - bs : Nat) : Int) := by rw [IntKind.wrap_u32]; omega
 have f8 : IntKind.u32.wrap ((v : Int) + 1) = (((v + 1) % 4294967296 : Nat) : Int) := by rw [IntKind.wrap_u32]; omega
 have hres : (v + 1) % 4294967296 < 4294967296 := Nat.mod_lt _ (by omega)
 clear f3 f1 f2
 have HVR := hid hv
 have HB1 := hid hb1
 have HB2 := hid hb2
 clear hv hb1 hb2 hbl
 obtain ⟨x0, hx0⟩ : ∃ x0, x0 = v - bs := ⟨_, rfl⟩
 have HX0 := hid hx0
 rw [<- hx0] at f4 f5 f6 f7 HB2 HE
 obtain ⟨res, hre⟩ : ∃ res, res = (v + 1) % 4294967296 := ⟨_, rfl⟩
 rw [<- hre] at f8 hres
 rw [<- hre]
 have HRE := hid hre
 clear hx0 hre
 have f9 : ∀ r : Nat, r < 4294967296 -> IntKind.i64.wrap (r : Int) = (r : Int) := fun r h => IntWalk.i64_in _ (by omega)
 have F9 := hid f9
 have q1 : (0 : Int) <= (cl : Int) := by omega
 have q2 : (cl : Int) < 4 := by omega
 have q3 : (cl : Int).toNat = cl := by omega
 clear f9 h
 go_enter Tryz.func76, Tryz.ntmps76
 go_upto_region 2 with (fail)
 go_cut [10] (fun v10 wc => v10 = .int .i64 sl /\ ∃ O', Step [c, cm] w O wc O' /\ EncS wc O' c cm a k gb cap nb tb s1)
 case first =>
  as_aux_lemma =>
  go_region_held3 (fun W => W.cell? ⟨k, 503 + cl, none⟩ = some (.slice (some ⟨tb 300 cl, 0, none⟩) 64 64)) (first | exact T1.out | exact HC0.out _ _ _ ‹_› | go_keep) (first | (go_at_call 88; (with_reducible refine (HCL.out _).mono ?_); rintro x w1 ⟨rfl, rfl⟩) | (go_at_call 89; (with_reducible refine (HSLOT.out _).mono ?_); rintro x w1 ⟨rfl, rfl⟩) | (go_at_call 122; (with_reducible refine HN.out.mono ?_); rintro x w2 ⟨rfl, O2, hs2, he2⟩))
  all_goals
   go_wp2_with fail
   go_meet
   exact ⟨rfl, O2, hs2.from_drew, he2⟩
 case rest =>
  obtain ⟨rfl, O1, hs1, he1⟩ := hcut
  have HS1 := hid hs1
  clear hs1 HN T1 c0 hc0 HC0
  go_wp2_with fail
  refine (HBASE.out _).mono ?_
  rintro x w1 ⟨rfl, rfl⟩
  have z1 : decide ((sl : Int) < 14) = false := by simp; omega
  have hmo := hm.2.1 (by omega)
  have HB := hid (far_enc he1 (by omega) x0 mo (by exact HB2.out) hm.1 (by omega))
  clear hm hbt hbsm hs14 hmo he1
  go_wp2_with fail
  refine HB.out.mono ?_
  rintro x w2 ⟨rfl, O4, hs2, he2⟩
  have HS2 := hid hs2
  have HE2 := hid he2
  clear hs2 he2 HB
  have g9 := F9.out res hres
  go_wp2_with fail
  go_ret
  exact ⟨rfl, O4, HS1.out.trans HS2.out, by rw [HE.out]; exact HE2.out⟩
end
end Go.Proofs.YtfpoabeihpfeiaaGreat.Mo
end
section
namespace Go.Proofs.YtfpoabeihpfeiaaGreat.Mo
open Go.RowKit
open Rc
section
variable {w : World} {O : Paint} {c cm a tot k gb cap nb : Nat} {tb : Nat -> Nat -> Nat} {s : Es} {d : Ds}
theorem dist_dec_near (h : DecS w O c cm a tot k gb cap nb tb d) (ln : Int) (hl0 : -9223372036854775808 <= ln) (hl1 : ln <= 9223372036854775807) (cl : Nat) (hcl : min (max ln 2) 5 - 2 = (cl : Int)) (hs14 : d.slotV cl < 14) :
  Calls Tryz.prog 76 #[.pointer (some ⟨k, 503, none⟩), .iface 193 (.agg #[.pointer (some ⟨a, 0, none⟩)]), .int .i64 ln, .int .i64 0] w (DecTo w O c cm a tot k gb cap nb tb (d.dist cl) (.int .i64 (((d.distV cl + 1) % 4294967296 : Nat) : Int))) := by
 have hsl : d.slotV cl < 64 := (h.sok.tr false 300 cl (n := 6) (by rw [show tlen 300 cl = 64 from rfl]; omega)).2
 have HE := hid (show d.dist cl = (d.num 300 cl 6).bk 310 (d.slotV cl) (St.more (d.slotV cl)) by unfold Ds.dist; rw [if_pos hs14])
 have HV := hid (show d.distV cl = St.base (d.slotV cl) + (d.num 300 cl 6).bkV 310 (d.slotV cl) (St.more (d.slotV cl)) by unfold Ds.distV; rw [if_pos hs14])
 have n_number : ∀ W : World, (nilAhead 310 193 (.agg #[.pointer (some ⟨a, 0, none⟩)]) "cassone/model.number").run Tryz.prog W = .ok (some false) W := fun _ => by kernel_rfl
 have m_number : ∀ W : World, (method 310 193 (.agg #[.pointer (some ⟨a, 0, none⟩)]) "cassone/model.number").run Tryz.prog W = .ok (142, .agg #[.pointer (some ⟨a, 0, none⟩)]) W := fun _ => by kernel_rfl
 have n_back : ∀ W : World, (nilAhead 310 193 (.agg #[.pointer (some ⟨a, 0, none⟩)]) "cassone/model.back").run Tryz.prog W = .ok (some false) W := fun _ => by kernel_rfl
 have m_back : ∀ W : World, (method 310 193 (.agg #[.pointer (some ⟨a, 0, none⟩)]) "cassone/model.back").run Tryz.prog W = .ok (138, .agg #[.pointer (some ⟨a, 0, none⟩)]) W := fun _ => by kernel_rfl
 have hm := more_le (d.slotV cl) hsl
 have HBASE := hid (base_nat (d.slotV cl) hsl)
 have hbl := St.base_lt hsl
 have hc4 : cl < 4 := by omega
 have HCL := hid (St.class_any ln hl0 hl1)
 rw [hcl] at HCL
 have l300 : tlen 300 cl = 64 := rfl
 have HSLOT : Hid (∀ W, Calls Tryz.prog 89 #[.int .u32 4294967295] W fun x w' => x = .returned (.int .i64 (St.slot 4294967295 : Int)) /\ W = w') := hid (St.slot_any 4294967295 (by omega))
 have HN := hid (dec_number (x := 300) (y := cl) (n := 6) (capv := 64) h.drew (by unfold isTree; omega) (by rw [l300]; omega) (by omega) (St.slot 4294967295 : Int))
 rw [show (2 : Nat) ^ 6 = 64 from rfl, show d.trV false 300 cl (tlen 300 cl) 6 = d.slotV cl from rfl] at HN
 rw [show d.tr false 300 cl (tlen 300 cl) 6 = d.num 300 cl 6 from rfl] at HN
 have hc0 : ∀ (W : World) (O' : Paint) (s' : Ds), DecS W O' c cm a tot k gb cap nb tb s' -> W.cell? ⟨k, 503 + cl, none⟩ = some (.slice (some ⟨tb 300 cl, 0, none⟩) 64 64) := fun W O' s' h => h.lik.tree 300 cl (by unfold isTree; omega) (by omega)
 have HC0 := hid hc0
 have T1 := hid (hc0 _ _ _ h.drew)
 have c0 := hc0 _ _ _ h
 generalize d.num 300 cl 6 = s1 at *
 generalize d.dist cl = sf at *
 generalize d.slotV cl = sl at *
 generalize St.slot 4294967295 = sl0 at *
 have hbt := base_top sl hsl
 have hbsm := base_small sl
 generalize St.base sl = bs at *
 generalize hmoe : St.more sl = mo at *
 have HMO := hid hmoe
 clear hmoe
 have HBL := hid hbl
 clear hbl
 have f9 : ∀ r : Nat, r < 4294967296 -> IntKind.i64.wrap (r : Int) = (r : Int) := fun r h => IntWalk.i64_in _ (by omega)
 have F9 := hid f9
 have q1 : (0 : Int) <= (cl : Int) := by omega
 have q2 : (cl : Int) < 4 := by omega
 have q3 : (cl : Int).toNat = cl := by omega
 clear f9 h
 go_enter Tryz.func76, Tryz.ntmps76
 go_upto_region 2 with (fail)
 go_cut [10] (fun v10 wc => v10 = .int .i64 sl /\ ∃ O', Step [c, cm] w O wc O' /\ DecS wc O' c cm a tot k gb cap nb tb s1)
 case first =>
  as_aux_lemma =>
  go_region_held3 (fun W => W.cell? ⟨k, 503 + cl, none⟩ = some (.slice (some ⟨tb 300 cl, 0, none⟩) 64 64)) (first | exact T1.out | exact HC0.out _ _ _ ‹_› | go_keep) (first | (go_at_call 88; (with_reducible refine (HCL.out _).mono ?_); rintro x w1 ⟨rfl, rfl⟩) | (go_at_call 89; (with_reducible refine (HSLOT.out _).mono ?_); rintro x w1 ⟨rfl, rfl⟩) | (go_at_call 142; (with_reducible refine HN.out.mono ?_); rintro x w2 ⟨rfl, O2, hs2, he2⟩))
  all_goals
   go_wp2_with fail
   go_meet
   exact ⟨rfl, O2, hs2.from_drew, he2⟩
 case rest =>
  obtain ⟨rfl, O1, hs1, he1⟩ := hcut
  have HS1 := hid hs1
  clear hs1 HN T1 c0 hc0 HC0
  go_wp2_with fail
  refine (HBASE.out _).mono ?_
  rintro x w1 ⟨rfl, rfl⟩
  have z1 : decide ((sl : Int) < 14) = true := by simp; omega
  have hsl14 : sl < 14 := hs14
  have hmo := hm.2.2 hs14
  have l310 : tlen 310 sl = 2 ^ St.more sl := rfl
  have hc1 : ∀ (W : World) (O' : Paint) (s' : Ds), DecS W O' c cm a tot k gb cap nb tb s' -> W.cell? ⟨k, 507 + sl, none⟩ = some (.slice (some ⟨tb 310 sl, 0, none⟩) (tlen 310 sl) (tcap 310 sl)) := fun W O' s' h => h.lik.tree 310 sl (by unfold isTree; omega) (by omega)
  have HC1 := hid hc1
  have T2 := hid (hc1 _ _ _ he1.drew)
  have c1 := hc1 _ _ _ he1
  clear hc1
  have hvl : s1.bkV 310 sl mo < 2 ^ mo := (he1.sok.tr true 310 sl (n := mo) (by rw [l310, HMO.out]; exact Nat.le_refl _)).2
  have hp5 : (2 : Nat) ^ mo <= 2 ^ 5 := Nat.pow_le_pow_right (by omega) hmo
  have HB := hid (fun y => dec_back (x := 310) (y := sl) (n := mo) he1.drew (by unfold isTree; omega) (by rw [l310, HMO.out]) (by omega) y)
  rw [show s1.trV true 310 sl (tlen 310 sl) mo = s1.bkV 310 sl mo from rfl, show s1.tr true 310 sl (tlen 310 sl) mo = s1.bk 310 sl mo from rfl] at HB
  generalize s1.bkV 310 sl mo = bv at *
  generalize s1.bk 310 sl mo = s2 at *
  have hb96 := hbsm hs14
  have g1 : IntKind.u32.wrap (bv : Int) = (bv : Int) := by rw [IntKind.wrap_u32]; omega
  have g2 : IntKind.u32.wrap ((bs : Int) + (bv : Int)) = ((bs + bv : Nat) : Int) := by rw [IntKind.wrap_u32]; omega
  have g3 : IntKind.u32.wrap (((bs + bv : Nat) : Int) + 1) = (((bs + bv + 1) % 4294967296 : Nat) : Int) := by rw [IntKind.wrap_u32]; omega
  have g4 := F9.out ((bs + bv + 1) % 4294967296) (Nat.mod_lt _ (by omega))
  obtain ⟨res, hre⟩ : ∃ res, res = (bs + bv + 1) % 4294967296 := ⟨_, rfl⟩
  rw [<- hre] at g3 g4
  have HRE := hid hre
  obtain ⟨sm, hsm⟩ : ∃ sm, sm = bs + bv := ⟨_, rfl⟩
  rw [<- hsm] at g2 g3
  have HSM := hid hsm
  clear hre hsm hvl hp5 hb96
  generalize tlen 310 sl = L at *
  generalize tcap 310 sl = C at *
  have HS14 := hid hs14
  clear hm hbt hbsm hs14 hsl14 hmo he1 l310
  have r1 : (0 : Int) <= (sl : Int) := by omega
  have r2 : (sl : Int) < 14 := by have := HS14.out; omega
  have r3 : (sl : Int).toNat = sl := by omega
  go_wp2_with fail
  go_cut [9] (fun v9 wd => v9 = .int .u32 sm /\ ∃ O', Step [c, cm] w O wd O' /\ DecS wd O' c cm a tot k gb cap nb tb s2)
  case first =>
   as_aux_lemma =>
   go_region_held3 (fun W => W.cell? ⟨k, 507 + sl, none⟩ = some (.slice (some ⟨tb 310 sl, 0, none⟩) L C)) (first | exact T2.out | exact HC1.out _ _ _ ‹_› | go_keep) (first | (go_at_call 138; (with_reducible refine (HB.out _).mono ?_); rintro x w2 ⟨rfl, O4, hs2, he2⟩))
   all_goals
    go_wp2_with fail
    go_meet
    exact ⟨rfl, O4, HS1.out.trans hs2.from_drew, he2⟩
  case rest =>
  obtain ⟨rfl, O4, hs2, he2⟩ := hcut
  have HS2 := hid hs2
  have HE2 := hid he2
  clear hs2 he2 HB T2 HC1
  go_wp2_with fail
  go_ret
  exact ⟨by rw [HV.out, <- HSM.out, HRE.out, HSM.out]; rfl, O4, HS2.out, by rw [HE.out]; exact HE2.out⟩
theorem dist_dec_far (h : DecS w O c cm a tot k gb cap nb tb d) (ln : Int) (hl0 : -9223372036854775808 <= ln) (hl1 : ln <= 9223372036854775807) (cl : Nat) (hcl : min (max ln 2) 5 - 2 = (cl : Int)) (hs14 : ¬ d.slotV cl < 14) :
  Calls Tryz.prog 76 #[.pointer (some ⟨k, 503, none⟩), .iface 193 (.agg #[.pointer (some ⟨a, 0, none⟩)]), .int .i64 ln, .int .i64 0] w (DecTo w O c cm a tot k gb cap nb tb (d.dist cl) (.int .i64 (((d.distV cl + 1) % 4294967296 : Nat) : Int))) := by
 have hsl : d.slotV cl < 64 := (h.sok.tr false 300 cl (n := 6) (by rw [show tlen 300 cl = 64 from rfl]; omega)).2
 have HE := hid (show d.dist cl = (d.num 300 cl 6).far (St.more (d.slotV cl)) by unfold Ds.dist; rw [if_neg hs14])
 have HV := hid (show d.distV cl = St.base (d.slotV cl) + (d.num 300 cl 6).farV (St.more (d.slotV cl)) by unfold Ds.distV; rw [if_neg hs14])
 have n_number : ∀ W : World, (nilAhead 310 193 (.agg #[.pointer (some ⟨a, 0, none⟩)]) "cassone/model.number").run Tryz.prog W = .ok (some false) W := fun _ => by kernel_rfl
 have m_number : ∀ W : World, (method 310 193 (.agg #[.pointer (some ⟨a, 0, none⟩)]) "cassone/model.number").run Tryz.prog W = .ok (142, .agg #[.pointer (some ⟨a, 0, none⟩)]) W := fun _ => by kernel_rfl
 have n_back : ∀ W : World, (nilAhead 310 193 (.agg #[.pointer (some ⟨a, 0, none⟩)]) "cassone/model.back").run Tryz.prog W = .ok (some false) W := fun _ => by kernel_rfl
 have m_back : ∀ W : World, (method 310 193 (.agg #[.pointer (some ⟨a, 0, none⟩)]) "cassone/model.back").run Tryz.prog W = .ok (138, .agg #[.pointer (some ⟨a, 0, none⟩)]) W := fun _ => by kernel_rfl
 have hm := more_le (d.slotV cl) hsl
 have HBASE := hid (base_nat (d.slotV cl) hsl)
 have hbl := St.base_lt hsl
 have hc4 : cl < 4 := by omega
 have HCL := hid (St.class_any ln hl0 hl1)
 rw [hcl] at HCL
 have l300 : tlen 300 cl = 64 := rfl
 have HSLOT : Hid (∀ W, Calls Tryz.prog 89 #[.int .u32 4294967295] W fun x w' => x = .returned (.int .i64 (St.slot 4294967295 : Int)) /\ W = w') := hid (St.slot_any 4294967295 (by omega))
 have HN := hid (dec_number (x := 300) (y := cl) (n := 6) (capv := 64) h.drew (by unfold isTree; omega) (by rw [l300]; omega) (by omega) (St.slot 4294967295 : Int))
 rw [show (2 : Nat) ^ 6 = 64 from rfl, show d.trV false 300 cl (tlen 300 cl) 6 = d.slotV cl from rfl] at HN
 rw [show d.tr false 300 cl (tlen 300 cl) 6 = d.num 300 cl 6 from rfl] at HN
 have hc0 : ∀ (W : World) (O' : Paint) (s' : Ds), DecS W O' c cm a tot k gb cap nb tb s' -> W.cell? ⟨k, 503 + cl, none⟩ = some (.slice (some ⟨tb 300 cl, 0, none⟩) 64 64) := fun W O' s' h => h.lik.tree 300 cl (by unfold isTree; omega) (by omega)
 have HC0 := hid hc0
 have T1 := hid (hc0 _ _ _ h.drew)
 have c0 := hc0 _ _ _ h
 generalize d.num 300 cl 6 = s1 at *
 generalize d.dist cl = sf at *
 generalize d.slotV cl = sl at *
 generalize St.slot 4294967295 = sl0 at *
 have hbt := base_top sl hsl
 have hbsm := base_small sl
 generalize St.base sl = bs at *
 generalize hmoe : St.more sl = mo at *
 have HMO := hid hmoe
 clear hmoe
 have HBL := hid hbl
 clear hbl
 have f9 : ∀ r : Nat, r < 4294967296 -> IntKind.i64.wrap (r : Int) = (r : Int) := fun r h => IntWalk.i64_in _ (by omega)
 have F9 := hid f9
 have q1 : (0 : Int) <= (cl : Int) := by omega
 have q2 : (cl : Int) < 4 := by omega
 have q3 : (cl : Int).toNat = cl := by omega
 clear f9 h
 go_enter Tryz.func76, Tryz.ntmps76
 go_upto_region 2 with (fail)
 go_cut [10] (fun v10 wc => v10 = .int .i64 sl /\ ∃ O', Step [c, cm] w O wc O' /\ DecS wc O' c cm a tot k gb cap nb tb s1)
 case first =>
  as_aux_lemma =>
  go_region_held3 (fun W => W.cell? ⟨k, 503 + cl, none⟩ = some (.slice (some ⟨tb 300 cl, 0, none⟩) 64 64)) (first | exact T1.out | exact HC0.out _ _ _ ‹_› | go_keep) (first | (go_at_call 88; (with_reducible refine (HCL.out _).mono ?_); rintro x w1 ⟨rfl, rfl⟩) | (go_at_call 89; (with_reducible refine (HSLOT.out _).mono ?_); rintro x w1 ⟨rfl, rfl⟩) | (go_at_call 142; (with_reducible refine HN.out.mono ?_); rintro x w2 ⟨rfl, O2, hs2, he2⟩))
  all_goals
   go_wp2_with fail
   go_meet
   exact ⟨rfl, O2, hs2.from_drew, he2⟩
 case rest =>
  obtain ⟨rfl, O1, hs1, he1⟩ := hcut
  have HS1 := hid hs1
  clear hs1 HN T1 c0 hc0 HC0
  go_wp2_with fail
  refine (HBASE.out _).mono ?_
  rintro x w1 ⟨rfl, rfl⟩
  have z1 : decide ((sl : Int) < 14) = false := by simp; omega
  have hmo := hm.2.1 (by omega)
  have hfl := farV_lt he1.sok (n := mo) (by omega)
  obtain ⟨y0, hy0, hyl⟩ : ∃ y0 : Nat, IntKind.u32.wrap (4294967295 - (bs : Int)) = (y0 : Int) /\ y0 < 4294967296 := ⟨4294967295 - bs, by rw [IntKind.wrap_u32]; omega, by omega⟩
  have HB := hid (far_dec he1 y0 mo hyl hm.1 (by omega))
  generalize s1.farV mo = bv at *
  have g2 : IntKind.u32.wrap ((bs : Int) + (bv : Int)) = ((bs + bv : Nat) : Int) := by rw [IntKind.wrap_u32]; omega
  have g3 : IntKind.u32.wrap (((bs + bv : Nat) : Int) + 1) = (((bs + bv + 1) % 4294967296 : Nat) : Int) := by rw [IntKind.wrap_u32]; omega
  have g4 := F9.out ((bs + bv + 1) % 4294967296) (Nat.mod_lt _ (by omega))
  obtain ⟨res, hre⟩ : ∃ res, res = (bs + bv + 1) % 4294967296 := ⟨_, rfl⟩
  rw [<- hre] at g3 g4
  have HRE := hid hre
  obtain ⟨sm, hsm⟩ : ∃ sm, sm = bs + bv := ⟨_, rfl⟩
  rw [<- hsm] at g2 g3
  have HSM := hid hsm
  clear hre hsm hfl hyl
  clear hm hbt hbsm hs14 hmo he1
  go_wp2_with fail
  refine HB.out.mono ?_
  rintro x w2 ⟨rfl, O4, hs2, he2⟩
  have HS2 := hid hs2
  have HE2 := hid he2
  clear hs2 he2 HB
  go_wp2_with fail
  go_ret
  exact ⟨by rw [HV.out, <- HSM.out, HRE.out, HSM.out]; rfl, O4, HS1.out.trans HS2.out, by rw [HE.out]; exact HE2.out⟩
end
end Go.Proofs.YtfpoabeihpfeiaaGreat.Mo
end
