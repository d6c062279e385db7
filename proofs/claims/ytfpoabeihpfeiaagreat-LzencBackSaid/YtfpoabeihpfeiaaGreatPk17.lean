/-
  Package model: a byte as bits: contracts of At for any distance, and of codeByte, for both kinds of coders.
-/
import Derived.Test.YtfpoabeihpfeiaaGreatPk14
import Derived.Test.YtfpoabeihpfeiaaGreatPk16

set_option maxRecDepth 100000
set_option maxHeartbeats 16000000
set_option linter.unusedVariables false
set_option linter.unusedSimpArgs false
open Go.Lib (hid)
namespace Go.Proofs.YtfpoabeihpfeiaaGreat.Mo
open Go.RowKit
open Rc
open Pk (Rp Pt)
open Wnd (Win)
theorem at_any {w : World} {b : Nat} {v : Value} {most : Nat} {l : List UInt8} (h : Win w b v most l) (hl : l.length <= 1099511627776) (d : Int) :
  Calls Tryz.prog 86 #[.pointer (some ⟨b, 0, none⟩), .int .i64 d] w fun e w' => e = .returned (.tuple #[.int .u8 (atB l d : Int), .bool (Wnd.there d l.length)]) /\ ∃ n, w' = w.drewN n := by
 unfold atB
 by_cases hd : Wnd.there d l.length = true
 · rw [if_pos hd, hd]
   unfold Wnd.there at hd
   simp at hd
   have hlt : l.length - d.toNat < l.length := by omega
   refine (Wnd.at_yes h d hd.1 hd.2 hl (l.getD (l.length - d.toNat) 0) (by simp [List.getD, hlt])).mono fun e w' hx => hx
 · rw [if_neg hd]
   have hf : Wnd.there d l.length = false := by simpa using hd
   rw [hf]
   exact (Wnd.at_no h d hf).mono fun e w' ⟨a, b⟩ => ⟨a, 0, b ▸ rfl⟩
theorem EncS.drewN {w : World} {O : Paint} {c cm a k gb cap nb : Nat} {tb : Nat -> Nat -> Nat} {s : Es} (h : EncS w O c cm a k gb cap nb tb s) (n : Nat) : EncS (w.drewN n) O c cm a k gb cap nb tb s := h.step (cs := []) ((Step.refl [] w O).drewN n) (by simp) (by simp)
theorem DecS.drewN {w : World} {O : Paint} {c cm a tot k gb cap nb : Nat} {tb : Nat -> Nat -> Nat} {d : Ds} (h : DecS w O c cm a tot k gb cap nb tb d) (n : Nat) : DecS (w.drewN n) O c cm a tot k gb cap nb tb d := h.step (cs := []) ((Step.refl [] w O).drewN n) (by simp) (by simp)
def Idle (w w' : World) : Prop := ∃ n, w' = w.drewN n
section
variable {w : World} {O : Paint} {c cm cw a tot k gb cap nb mo wb wm : Nat} {most : Int} {v : Value} {tb : Nat -> Nat -> Nat} {s : Es} {d : Ds} {m : Ms}
theorem byte_enc (hm : ModAt w O cw mo wb v m.lc m.lp m.pb most wm m.l m.r m.st k) (hok : m.Ok nb) (hl : m.l.length <= 1099511627776) (h : EncS w O c cm a k gb cap nb tb s) (ht : s.e.turns <= 800000) (b : Nat) (hb : b < 256) :
  Calls Tryz.prog 74 #[.pointer (some ⟨mo, 0, none⟩), .iface 114 (.agg #[.pointer (some ⟨a, 0, none⟩)]), .int .u8 b] w (EncTo w O c cm a k gb cap nb tb (s.byte m.lc m.lp m.st m.l m.r.a b) (.int .u8 b)) := by
 obtain ⟨lc, lp, pb, st, l, r⟩ := m
 have hctx := hok.ctx
 obtain ⟨hst, hlp, hpb, hnb⟩ := hok
 simp only at *
 have HA := hid (at_any hm.win hl 1)
 have HW := hid hm.win
 have HLOW := hid (lowest_any l.length lp (by omega) (by omega))
 obtain ⟨q0, q1, q2, q3, q4, q5, q6, q7, q8, q9, q10⟩ := hm.cells
 have hx0 : l.length % 2 ^ lp < 16 := by
  have h1 : 2 ^ lp <= 2 ^ 4 := Nat.pow_le_pow_right (by omega) (by omega)
  have h2 : l.length % 2 ^ lp < 2 ^ lp := Nat.mod_lt _ (Nat.two_pow_pos _)
  omega
 have hct : ctx lc lp l = (l.length % 2 ^ lp) * 2 ^ lc + atB l 1 / 2 ^ (8 - lc) := rfl
 have hy0 := atB_lt l 1
 have hT : ctx lc lp l < nb := by rcases hctx with ⟨_, h⟩ | h | h | h | h <;> omega
 have c0 := h.lik.list
 have c1 := h.lik.byte _ hT
 have hnb16 : nb <= 16 := by
  rw [hnb]
  exact Nat.pow_le_pow_right (n := 2) (by omega) hlp
 generalize l.length % 2 ^ lp = x0 at *
 generalize atB l 1 = y0 at *
 have p1 : (0 : Int) <= (lc : Int) := by omega
 have p2 : (lc : Int) < 64 := by omega
 have p3 : (0 : Int) <= 8 - (lc : Int) := by omega
 have p4 : (8 : Int) - (lc : Int) < 64 := by omega
 have p5 : ((8 : Int) - (lc : Int)).toNat = 8 - lc := by omega
 have hT16 : ctx lc lp l < 16 := by omega
 have e2 : IntKind.i64.wrap ((x0 : Int) * 2 ^ lc) = (x0 : Int) * 2 ^ lc := by
  have h1 : x0 * 2 ^ lc <= 16 * 2 ^ 4 := Nat.mul_le_mul (by omega) (Nat.pow_le_pow_right (by omega) (by omega))
  rw [show (x0 : Int) * 2 ^ lc = ((x0 * 2 ^ lc : Nat) : Int) from by push_cast; rfl]
  generalize x0 * 2 ^ lc = X at *
  exact IntWalk.i64_in _ (by omega)
 have e3 : IntKind.i64.wrap ((y0 : Int) / 2 ^ (8 - lc)) = (y0 : Int) / 2 ^ (8 - lc) := by
  have h1 : y0 / 2 ^ (8 - lc) <= y0 := Nat.div_le_self _ _
  rw [show (y0 : Int) / 2 ^ (8 - lc) = ((y0 / 2 ^ (8 - lc) : Nat) : Int) from by push_cast; rfl]
  generalize y0 / 2 ^ (8 - lc) = Y at *
  exact IntWalk.i64_in _ (by omega)
 have e4 : IntKind.i64.wrap ((x0 : Int) * 2 ^ lc + (y0 : Int) / 2 ^ (8 - lc)) = (ctx lc lp l : Int) := by
  rw [show (x0 : Int) * 2 ^ lc + (y0 : Int) / 2 ^ (8 - lc) = (ctx lc lp l : Int) from by rw [hct]; push_cast; rfl]
  exact IntWalk.i64_in _ (by omega)
 have HE := hid (show s.byte lc lp st l r.a b = if st < 7 then s.num 100 (ctx lc lp l) 8 b else s.like 100 (ctx lc lp l) b (atB l r.a) from rfl)
 generalize s.byte lc lp st l r.a b = sf at *
 clear hct
 generalize ctx lc lp l = T at *
 have i1 : (0 : Int) <= (T : Int) := by omega
 have i2 : (T : Int) < (nb : Int) := by omega
 clear hnb
 have e1 : wrap64 (8 - (lc : Int)) = 8 - (lc : Int) := by unfold wrap64; omega
 have e1' : IntKind.i64.wrap (8 - (lc : Int)) = 8 - (lc : Int) := IntWalk.i64_in _ (by omega)
 clear hm
 go_enter Tryz.func74, Tryz.ntmps74
 go_wp2_with fail
 refine HA.out.mono ?_
 rintro x w1 ⟨rfl, n1, rfl⟩
 go_upto_region 2 with (fail)
 go_quiet (fail)
 go_upto_region 3 with (fail)
 go_cut [11] (fun v11 wc => v11 = .slice (some ⟨tb 100 T, 0, none⟩) 768 1024 /\ ∃ n, wc = w.drewN n)
 case first =>
  as_aux_lemma =>
  go_quiet (first | (go_at_call 71; exact (Wnd.len_any (HW.out.drewN _)).mono (fun _ _ hx => ⟨hx.1, _, hx.2.symm⟩)) | (go_at_call 72; exact (HLOW.out _).mono (fun _ _ hx => ⟨hx.1, _, hx.2.symm⟩)))
  go_wp2_with fail
  go_meet
  exact ⟨rfl, _, by rw [World.drewN_drewN, World.drewN_drewN]⟩
 case rest =>
  obtain ⟨rfl, N, rfl⟩ := hcut
  have hE := h.drewN N
  have HW2 := hid (HW.out.drewN N)
  have HST : Hid (Step [c, cm] w O (w.drewN N) O) := hid ((Step.refl _ w O).drewN N)
  have r4 : (w.drewN N).cell? ⟨mo, 4, none⟩ = some (.pointer (some ⟨wb, 0, none⟩)) := q4
  have r5 : (w.drewN N).cell? ⟨mo, 5, none⟩ = some (.int .i64 r.a) := q5
  have r9 : (w.drewN N).cell? ⟨mo, 9, none⟩ = some (.int .i64 st) := q9
  clear q0 q1 q2 q3 q4 q5 q6 q7 q8 q9 q10 c0 c1 h HW HA HLOW e1 e1' e2 e3 e4 p1 p2 p3 p4 p5
  generalize w.drewN N = W at *
  go_wp2_with fail
  refine (St.lit_any _ _).mono ?_
  rintro x w1 ⟨rfl, rfl⟩
  by_cases hs7 : st < 7
  · have hd : decide ((st : Int) < 7) = true := by simp; omega
    rw [if_pos hs7] at HE
    have HN := hid (enc_number (x := 100) (y := T) (n := 8) (capv := 1024) hE.drew (by omega) hctx (by rw [show tlen 100 T = 768 from rfl]; exact Nat.le_of_ble_eq_true rfl) (by omega) b (by omega))
    rw [show (2 : Nat) ^ 8 = 256 from rfl, show s.tr false 100 T (tlen 100 T) 8 b = s.num 100 T 8 b from rfl] at HN
    rw [<- HE.out] at HN
    have n_number : ∀ W : World, (nilAhead 310 114 (.agg #[.pointer (some ⟨a, 0, none⟩)]) "cassone/model.number").run Tryz.prog W = .ok (some false) W := fun _ => by kernel_rfl
    have m_number : ∀ W : World, (method 310 114 (.agg #[.pointer (some ⟨a, 0, none⟩)]) "cassone/model.number").run Tryz.prog W = .ok (122, .agg #[.pointer (some ⟨a, 0, none⟩)]) W := fun _ => by kernel_rfl
    have g1 : IntKind.i64.wrap (b : Int) = (b : Int) := IntWalk.i64_in _ (by omega)
    have g2 : IntKind.u8.wrap (b : Int) = (b : Int) := by rw [IntKind.wrap_u8]; omega
    clear HE hE hctx
    go_upto_region 5 with (fail)
    go_cut [6] (fun v6 wc => v6 = .int .u8 b /\ ∃ O', Step [c, cm] w O wc O' /\ EncS wc O' c cm a k gb cap nb tb sf)
    case first =>
     as_aux_lemma =>
     go_region_held3 (fun _ => True) (first | exact trivial | go_keep) ((go_at_call 122; (with_reducible refine HN.out.mono ?_); rintro x w2 ⟨rfl, O2, hs2, he2⟩))
     all_goals
      go_wp2_with fail
      go_meet
      exact ⟨rfl, O2, HST.out.trans hs2.from_drew, he2⟩
    case rest =>
     obtain ⟨rfl, O2, hs2, he2⟩ := hcut
     have HS2 := hid hs2
     have HE2 := hid he2
     clear hs2 he2 HN
     go_wp2_with fail
     go_ret
     exact ⟨rfl, O2, HS2.out, HE2.out⟩
  · have hd : decide ((st : Int) < 7) = false := by simp; omega
    rw [if_neg hs7] at HE
    have hy1 := atB_lt l r.a
    have l100 : tlen 100 T = 768 := rfl
    have c100 : tcap 100 T = 1024 := rfl
    have HN := hid (fun (N : Nat) => enc_like (x := 100) (y := T) (hE.drewN N) (by omega) hctx l100 b (atB l r.a) hb hy1)
    rw [l100, c100, <- HE.out] at HN
    have n_like : ∀ W : World, (nilAhead 310 114 (.agg #[.pointer (some ⟨a, 0, none⟩)]) "cassone/model.like").run Tryz.prog W = .ok (some false) W := fun _ => by kernel_rfl
    have m_like : ∀ W : World, (method 310 114 (.agg #[.pointer (some ⟨a, 0, none⟩)]) "cassone/model.like").run Tryz.prog W = .ok (121, .agg #[.pointer (some ⟨a, 0, none⟩)]) W := fun _ => by kernel_rfl
    clear HE hE hctx l100 c100
    go_upto_region 6 with (fail)
    go_quiet ((go_at_call 86; (with_reducible refine (at_any (HW2.out.drewN _) hl r.a).mono ?_); rintro x w2 ⟨rfl, n2, rfl⟩; exact ⟨rfl, _, by rw [World.drewN_drewN]⟩))
    go_wp2_with fail
    refine (HN.out _).mono ?_
    rintro x w2 ⟨rfl, O2, hs2, he2⟩
    have HS2 := hid (HST.out.trans (Step.from_drewN hs2))
    have HE2 := hid he2
    clear hs2 he2 HN
    go_wp2_with fail
    go_ret
    exact ⟨rfl, O2, HS2.out, HE2.out⟩
theorem byte_dec (hm : ModAt w O cw mo wb v m.lc m.lp m.pb most wm m.l m.r m.st k) (hok : m.Ok nb) (hl : m.l.length <= 1099511627776) (h : DecS w O c cm a tot k gb cap nb tb d) :
  Calls Tryz.prog 74 #[.pointer (some ⟨mo, 0, none⟩), .iface 193 (.agg #[.pointer (some ⟨a, 0, none⟩)]), .int .u8 0] w (DecTo w O c cm a tot k gb cap nb tb (d.byte m.lc m.lp m.st m.l m.r.a) (.int .u8 (d.byteV m.lc m.lp m.st m.l m.r.a : Int))) := by
 obtain ⟨lc, lp, pb, st, l, r⟩ := m
 have hctx := hok.ctx
 obtain ⟨hst, hlp, hpb, hnb⟩ := hok
 simp only at *
 have HA := hid (at_any hm.win hl 1)
 have HW := hid hm.win
 have HLOW := hid (lowest_any l.length lp (by omega) (by omega))
 obtain ⟨q0, q1, q2, q3, q4, q5, q6, q7, q8, q9, q10⟩ := hm.cells
 have hx0 : l.length % 2 ^ lp < 16 := by
  have h1 : 2 ^ lp <= 2 ^ 4 := Nat.pow_le_pow_right (by omega) (by omega)
  have h2 : l.length % 2 ^ lp < 2 ^ lp := Nat.mod_lt _ (Nat.two_pow_pos _)
  omega
 have hct : ctx lc lp l = (l.length % 2 ^ lp) * 2 ^ lc + atB l 1 / 2 ^ (8 - lc) := rfl
 have hy0 := atB_lt l 1
 have hT : ctx lc lp l < nb := by rcases hctx with ⟨_, h⟩ | h | h | h | h <;> omega
 have c0 := h.lik.list
 have c1 := h.lik.byte _ hT
 have hnb16 : nb <= 16 := by
  rw [hnb]
  exact Nat.pow_le_pow_right (n := 2) (by omega) hlp
 generalize l.length % 2 ^ lp = x0 at *
 generalize atB l 1 = y0 at *
 have p1 : (0 : Int) <= (lc : Int) := by omega
 have p2 : (lc : Int) < 64 := by omega
 have p3 : (0 : Int) <= 8 - (lc : Int) := by omega
 have p4 : (8 : Int) - (lc : Int) < 64 := by omega
 have p5 : ((8 : Int) - (lc : Int)).toNat = 8 - lc := by omega
 have hT16 : ctx lc lp l < 16 := by omega
 have e2 : IntKind.i64.wrap ((x0 : Int) * 2 ^ lc) = (x0 : Int) * 2 ^ lc := by
  have h1 : x0 * 2 ^ lc <= 16 * 2 ^ 4 := Nat.mul_le_mul (by omega) (Nat.pow_le_pow_right (by omega) (by omega))
  rw [show (x0 : Int) * 2 ^ lc = ((x0 * 2 ^ lc : Nat) : Int) from by push_cast; rfl]
  generalize x0 * 2 ^ lc = X at *
  exact IntWalk.i64_in _ (by omega)
 have e3 : IntKind.i64.wrap ((y0 : Int) / 2 ^ (8 - lc)) = (y0 : Int) / 2 ^ (8 - lc) := by
  have h1 : y0 / 2 ^ (8 - lc) <= y0 := Nat.div_le_self _ _
  rw [show (y0 : Int) / 2 ^ (8 - lc) = ((y0 / 2 ^ (8 - lc) : Nat) : Int) from by push_cast; rfl]
  generalize y0 / 2 ^ (8 - lc) = Y at *
  exact IntWalk.i64_in _ (by omega)
 have e4 : IntKind.i64.wrap ((x0 : Int) * 2 ^ lc + (y0 : Int) / 2 ^ (8 - lc)) = (ctx lc lp l : Int) := by
  rw [show (x0 : Int) * 2 ^ lc + (y0 : Int) / 2 ^ (8 - lc) = (ctx lc lp l : Int) from by rw [hct]; push_cast; rfl]
  exact IntWalk.i64_in _ (by omega)
 have HE := hid (show d.byte lc lp st l r.a = if st < 7 then d.num 100 (ctx lc lp l) 8 else d.like 100 (ctx lc lp l) (atB l r.a) from rfl)
 have HV := hid (show d.byteV lc lp st l r.a = if st < 7 then d.numV 100 (ctx lc lp l) 8 else d.likeV 100 (ctx lc lp l) (atB l r.a) from rfl)
 generalize d.byte lc lp st l r.a = sf at *
 generalize d.byteV lc lp st l r.a = V at *
 clear hct
 generalize ctx lc lp l = T at *
 have i1 : (0 : Int) <= (T : Int) := by omega
 have i2 : (T : Int) < (nb : Int) := by omega
 clear hnb
 have e1 : wrap64 (8 - (lc : Int)) = 8 - (lc : Int) := by unfold wrap64; omega
 have e1' : IntKind.i64.wrap (8 - (lc : Int)) = 8 - (lc : Int) := IntWalk.i64_in _ (by omega)
 clear hm
 go_enter Tryz.func74, Tryz.ntmps74
 go_wp2_with fail
 refine HA.out.mono ?_
 rintro x w1 ⟨rfl, n1, rfl⟩
 go_upto_region 2 with (fail)
 go_quiet (fail)
 go_upto_region 3 with (fail)
 go_cut [11] (fun v11 wc => v11 = .slice (some ⟨tb 100 T, 0, none⟩) 768 1024 /\ ∃ n, wc = w.drewN n)
 case first =>
  as_aux_lemma =>
  go_quiet (first | (go_at_call 71; exact (Wnd.len_any (HW.out.drewN _)).mono (fun _ _ hx => ⟨hx.1, _, hx.2.symm⟩)) | (go_at_call 72; exact (HLOW.out _).mono (fun _ _ hx => ⟨hx.1, _, hx.2.symm⟩)))
  go_wp2_with fail
  go_meet
  exact ⟨rfl, _, by rw [World.drewN_drewN, World.drewN_drewN]⟩
 case rest =>
  obtain ⟨rfl, N, rfl⟩ := hcut
  have hE := h.drewN N
  have HW2 := hid (HW.out.drewN N)
  have HST : Hid (Step [c, cm] w O (w.drewN N) O) := hid ((Step.refl _ w O).drewN N)
  have r4 : (w.drewN N).cell? ⟨mo, 4, none⟩ = some (.pointer (some ⟨wb, 0, none⟩)) := q4
  have r5 : (w.drewN N).cell? ⟨mo, 5, none⟩ = some (.int .i64 r.a) := q5
  have r9 : (w.drewN N).cell? ⟨mo, 9, none⟩ = some (.int .i64 st) := q9
  clear q0 q1 q2 q3 q4 q5 q6 q7 q8 q9 q10 c0 c1 h HW HA HLOW e1 e1' e2 e3 e4 p1 p2 p3 p4 p5
  generalize w.drewN N = W at *
  go_wp2_with fail
  refine (St.lit_any _ _).mono ?_
  rintro x w1 ⟨rfl, rfl⟩
  by_cases hs7 : st < 7
  · have hd : decide ((st : Int) < 7) = true := by simp; omega
    rw [if_pos hs7] at HE HV
    have HN := hid (dec_number (x := 100) (y := T) (n := 8) (capv := 1024) hE.drew hctx (by rw [show tlen 100 T = 768 from rfl]; exact Nat.le_of_ble_eq_true rfl) (by omega) 0)
    rw [show (2 : Nat) ^ 8 = 256 from rfl, show d.tr false 100 T (tlen 100 T) 8 = d.num 100 T 8 from rfl, show d.trV false 100 T (tlen 100 T) 8 = d.numV 100 T 8 from rfl] at HN
    have hV : V < 256 := by rw [HV.out]; exact (hE.sok.num 100 T (n := 8) (by rw [show tlen 100 T = 768 from rfl]; exact Nat.le_of_ble_eq_true rfl)).2
    rw [<- HE.out, <- HV.out] at HN
    have n_number : ∀ W : World, (nilAhead 310 193 (.agg #[.pointer (some ⟨a, 0, none⟩)]) "cassone/model.number").run Tryz.prog W = .ok (some false) W := fun _ => by kernel_rfl
    have m_number : ∀ W : World, (method 310 193 (.agg #[.pointer (some ⟨a, 0, none⟩)]) "cassone/model.number").run Tryz.prog W = .ok (142, .agg #[.pointer (some ⟨a, 0, none⟩)]) W := fun _ => by kernel_rfl
    have g1 : IntKind.i64.wrap 0 = 0 := by kernel_rfl
    have g2 : IntKind.u8.wrap (V : Int) = (V : Int) := by rw [IntKind.wrap_u8]; omega
    clear HE hE hctx
    go_upto_region 5 with (fail)
    go_cut [6] (fun v6 wc => v6 = .int .u8 V /\ ∃ O', Step [c, cm] w O wc O' /\ DecS wc O' c cm a tot k gb cap nb tb sf)
    case first =>
     as_aux_lemma =>
     go_region_held3 (fun _ => True) (first | exact trivial | go_keep) ((go_at_call 142; (with_reducible refine HN.out.mono ?_); rintro x w2 ⟨rfl, O2, hs2, he2⟩))
     all_goals
      go_wp2_with fail
      go_meet
      exact ⟨rfl, O2, HST.out.trans hs2.from_drew, he2⟩
    case rest =>
     obtain ⟨rfl, O2, hs2, he2⟩ := hcut
     have HS2 := hid hs2
     have HE2 := hid he2
     clear hs2 he2 HN
     go_wp2_with fail
     go_ret
     exact ⟨rfl, O2, HS2.out, HE2.out⟩
  · have hd : decide ((st : Int) < 7) = false := by simp; omega
    rw [if_neg hs7] at HE HV
    have hy1 := atB_lt l r.a
    have l100 : tlen 100 T = 768 := rfl
    have c100 : tcap 100 T = 1024 := rfl
    have HN := hid (fun (N : Nat) => dec_like (x := 100) (y := T) (hE.drewN N) hctx l100 0 (atB l r.a) hy1)
    rw [l100, c100, <- HE.out, <- HV.out] at HN
    have n_like : ∀ W : World, (nilAhead 310 193 (.agg #[.pointer (some ⟨a, 0, none⟩)]) "cassone/model.like").run Tryz.prog W = .ok (some false) W := fun _ => by kernel_rfl
    have m_like : ∀ W : World, (method 310 193 (.agg #[.pointer (some ⟨a, 0, none⟩)]) "cassone/model.like").run Tryz.prog W = .ok (141, .agg #[.pointer (some ⟨a, 0, none⟩)]) W := fun _ => by kernel_rfl
    clear HE hE hctx l100 c100
    go_upto_region 6 with (fail)
    go_quiet ((go_at_call 86; (with_reducible refine (at_any (HW2.out.drewN _) hl r.a).mono ?_); rintro x w2 ⟨rfl, n2, rfl⟩; exact ⟨rfl, _, by rw [World.drewN_drewN]⟩))
    go_wp2_with fail
    refine (HN.out _).mono ?_
    rintro x w2 ⟨rfl, O2, hs2, he2⟩
    have HS2 := hid (HST.out.trans (Step.from_drewN hs2))
    have HE2 := hid he2
    clear hs2 he2 HN
    go_wp2_with fail
    go_ret
    exact ⟨rfl, O2, HS2.out, HE2.out⟩
end
end Go.Proofs.YtfpoabeihpfeiaaGreat.Mo
