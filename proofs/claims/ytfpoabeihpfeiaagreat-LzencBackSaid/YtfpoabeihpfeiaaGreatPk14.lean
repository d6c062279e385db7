/-
  Layer 9: contracts of the developers' state and of the document's answer.
  Package model: distances as bits: contracts of lowest, codeFar and distances.code, for both kinds of coders.
  Plain mathematics of layer 10: a packet's bits, put and got, in plain numbers: what coding a packet does to a coder and to the probabilities.
-/
import Derived.Test.YtfpoabeihpfeiaaGreatPk04
import Derived.Test.YtfpoabeihpfeiaaGreatPk08
import Derived.Test.YtfpoabeihpfeiaaGreatPk12
import Derived.Test.YtfpoabeihpfeiaaGreatPk13
import Derived.Test.YtfpoabeihpfeiaaGreatChecked
import Derived.WalkKit
import Derived.Lib.Hide
import Derived.Lib.Small
import Derived.Lib.Walk
import Derived.Lib.BitFns
import Derived.Deep.RegionHeld3
import Derived.BigRegion
import Derived.StillTailTactics
set_option maxRecDepth 100000
set_option maxHeartbeats 16000000
set_option linter.unusedVariables false
set_option linter.unusedSimpArgs false
open Go.Lib (hid)
section
namespace Go.Proofs.YtfpoabeihpfeiaaGreat.St
open Go.RowKit
theorem ret_i {a b : Int} (h : a = b) : Ending.returned (.int .i64 a) = .returned (.int .i64 b) := by rw [h]
theorem lit_any (s : Int) (w : World) : Calls Tryz.prog 87 #[.int .i64 s] w fun x w' => x = .returned (.bool (decide (s < 7))) /\ w = w' := by
 go_enter Tryz.func87, Tryz.ntmps87
 go_wp2
 go_ret
 exact ⟨rfl, rfl⟩
theorem next_any (s k : Int) (h0 : 0 <= s) (h1 : s <= 11) (w : World) : Calls Tryz.prog 80 #[.int .i64 s, .int .i64 k] w fun x w' => x = .returned (.int .i64 (nxt s k)) /\ w = w' := by
 have key : ∀ a b : Int, s - a = b -> -9 <= b -> b <= 11 -> IntKind.i64.wrap (s - a) = s - a := fun a b h _ _ => IntWalk.i64_in _ (by omega)
 have e3 := IntWalk.i64_in (s - 3) (by omega)
 have e6 := IntWalk.i64_in (s - 6) (by omega)
 by_cases k1 : k = 1
 · subst k1
   unfold nxt
   by_cases a : s < 4 <;> by_cases b : s < 10 <;> first | omega | skip
   all_goals
    try have b9 : s <= 9 := by omega
    try have b9 : ¬ s <= 9 := by omega
    go_enter Tryz.func80, Tryz.ntmps80
    go_wp2
    go_ret
    exact ⟨ret_i (by simp [a, b]), rfl⟩
 · unfold nxt
   by_cases a : s < 7
   all_goals
    by_cases k2 : k = 2
    · subst k2
      go_enter Tryz.func80, Tryz.ntmps80
      go_wp2
      go_ret
      exact ⟨ret_i (by simp [a]), rfl⟩
    by_cases k3 : k = 3
    · subst k3
      go_enter Tryz.func80, Tryz.ntmps80
      go_wp2
      go_ret
      exact ⟨ret_i (by simp [a]), rfl⟩
    by_cases k4 : k = 4
    · subst k4
      go_enter Tryz.func80, Tryz.ntmps80
      go_wp2
      go_ret
      exact ⟨ret_i (by simp [a]), rfl⟩
    · go_enter Tryz.func80, Tryz.ntmps80
      go_wp2
      go_ret
      exact ⟨ret_i (by simp [k1, k2, k3, k4]), rfl⟩
theorem ref_any (s k : Int) (h0 : 0 <= s) (h1 : s <= 11) (w : World) : Calls Tryz.prog 38 #[.int .i64 s, .int .i64 k] w fun x w' => x = .returned (.int .i64 (nxt s k)) /\ w = w' := by
 have e3 := IntWalk.i64_in (s - 3) (by omega)
 have e6 := IntWalk.i64_in (s - 6) (by omega)
 by_cases k1 : k = 1
 · subst k1
   unfold nxt
   by_cases a : s < 4 <;> by_cases b : s < 10 <;> first | omega | skip
   all_goals
    go_enter Tryz.func38, Tryz.ntmps38
    go_wp2
    go_ret
    exact ⟨ret_i (by simp [a, b]), rfl⟩
 · unfold nxt
   by_cases a : s < 7
   all_goals
    by_cases k2 : k = 2
    · subst k2
      go_enter Tryz.func38, Tryz.ntmps38
      go_wp2
      go_ret
      exact ⟨ret_i (by simp [a]), rfl⟩
    by_cases k3 : k = 3
    · subst k3
      go_enter Tryz.func38, Tryz.ntmps38
      go_wp2
      go_ret
      exact ⟨ret_i (by simp [a]), rfl⟩
    by_cases k4 : k = 4
    · subst k4
      go_enter Tryz.func38, Tryz.ntmps38
      go_wp2
      go_ret
      exact ⟨ret_i (by simp [a]), rfl⟩
    · go_enter Tryz.func38, Tryz.ntmps38
      go_wp2
      go_ret
      exact ⟨ret_i (by simp [k1, k2, k3, k4]), rfl⟩
theorem class_any (n : Int) (hn0 : -9223372036854775808 <= n) (hn1 : n <= 9223372036854775807) (w : World) : Calls Tryz.prog 88 #[.int .i64 n] w fun x w' => x = .returned (.int .i64 (min (max n 2) 5 - 2)) /\ w = w' := by
 by_cases h1 : n < 2
 · go_enter Tryz.func88, Tryz.ntmps88
   go_wp2
   all_goals (go_ret; exact ⟨ret_i (by omega), rfl⟩)
 · by_cases h2 : 5 < n
   all_goals
    go_enter Tryz.func88, Tryz.ntmps88
    go_wp2
    all_goals (go_ret; exact ⟨ret_i (by omega), rfl⟩)
theorem blen_lib (d : Nat) (h : d < 18446744073709551616) : blen d = Lib.bitLen d := by
 have key : ∀ f x : Nat, x < 2 ^ f -> Lib.bitLenAux f x = blen x := by
  intro f
  induction f with
  | zero => intro x hx; have : x = 0 := by simpa using hx
            subst this; rfl
  | succ f ih =>
   intro x hx
   rw [Lib.bitLenAux]
   split
   · subst_vars; rfl
   · rename_i h0
     rw [ih (x / 2) (by rw [Nat.pow_succ] at hx; omega)]
     by_cases h1 : x = 1
     · subst h1; decide
     · exact (blen_shift 1 (by omega)).symm
 exact (key 64 d h).symm
theorem and1 (v : Nat) (hv : v < 4294967296) : bits .and .u32 (v : Int) 1 = ((v % 2 : Nat) : Int) := by
 have h := bits_mask .u32 32 (by decide) (fun n h0 h1 => by rw [IntKind.wrap_u32]; omega) 1 (by decide) (v : Int) (by omega) (by omega)
 have e : ((2 : Int) ^ 1 - 1) = 1 := by decide
 rw [e] at h
 rw [h]; omega
theorem len32_int (x : Int) (h0 : 0 <= x) (h1 : x <= 4294967295) (w : World) : Calls Tryz.prog 95 #[.int .u32 x] w fun e w' => e = .returned (.int .i64 (Lib.bitLen x.toNat : Int)) /\ w = w' := by
 by_cases a : x < 65536
 · by_cases b : x < 256
   · have d1 : x <= 255 := by omega
     go_enter Tryz.func95, Tryz.ntmps95
     go_wp2
     go_ret
     refine ⟨ret_i ?_, rfl⟩
     rw [Lib.len8_of x h0 d1]
     have l := Lib.bitLen_le8' x h0 (by omega)
     unfold wrap64
     omega
   · have d0 : 0 <= x / 256 := by omega
     have d1 : x / 256 <= 255 := by omega
     have d2 : x / 256 < 256 := by omega
     go_enter Tryz.func95, Tryz.ntmps95
     go_wp2
     go_ret
     refine ⟨ret_i ?_, rfl⟩
     rw [Lib.len8_of (x / 256) d0 d1]
     have l := Lib.bitLen_le8' (x / 256) d0 d1
     have s := Lib.bitLen_shift8 x.toNat (by omega) (by omega)
     have e : (x / 256).toNat = x.toNat / 256 := by omega
     rw [e] at l ⊢
     unfold wrap64
     omega
 · by_cases b : x / 65536 < 256
   · have d0 : 0 <= x / 65536 := by omega
     have d1 : x / 65536 <= 255 := by omega
     go_enter Tryz.func95, Tryz.ntmps95
     go_wp2
     go_ret
     refine ⟨ret_i ?_, rfl⟩
     rw [Lib.len8_of (x / 65536) d0 d1]
     have l := Lib.bitLen_le8' (x / 65536) d0 d1
     have s := Lib.bitLen_shift16 x.toNat (by omega) (by omega)
     have e : (x / 65536).toNat = x.toNat / 65536 := by omega
     rw [e] at l ⊢
     unfold wrap64
     omega
   · have d0 : 0 <= x / 65536 / 256 := by omega
     have d1 : x / 65536 / 256 <= 255 := by omega
     have d2 : x / 65536 / 256 < 256 := by omega
     go_enter Tryz.func95, Tryz.ntmps95
     go_wp2
     go_ret
     refine ⟨ret_i ?_, rfl⟩
     rw [Lib.len8_of (x / 65536 / 256) d0 d1]
     have l := Lib.bitLen_le8' (x / 65536 / 256) d0 d1
     have s := Lib.bitLen_shift24 x.toNat (by omega) (by omega)
     have e : (x / 65536 / 256).toNat = x.toNat / 16777216 := by omega
     rw [e] at l ⊢
     unfold wrap64
     omega
theorem len32_any (d : Nat) (h : d < 4294967296) (w : World) : Calls Tryz.prog 95 #[.int .u32 d] w fun x w' => x = .returned (.int .i64 (blen d : Int)) /\ w = w' := by
 have := len32_int (d : Int) (by omega) (by omega) w
 rw [Int.toNat_natCast, <- blen_lib d (by omega)] at this
 exact this
theorem slot_any (d : Nat) (h : d < 4294967296) (w : World) : Calls Tryz.prog 89 #[.int .u32 d] w fun x w' => x = .returned (.int .i64 (slot d : Int)) /\ w = w' := by
 have hl := hid (len32_any d h)
 by_cases h4 : d < 4
 · have e : slot d = d := by unfold slot; rw [if_pos h4]
   rw [e]
   have c1 : (d : Int) < 4 := by omega
   go_enter Tryz.func89, Tryz.ntmps89
   go_wp2
   go_ret
   exact ⟨ret_i (by omega), rfl⟩
 · have c1 : ¬ (d : Int) < 4 := by omega
   have hs := hid (slot_bit (d := d) (by omega))
   have hb : blen d = d.log2 + 1 := by unfold blen; rw [if_neg (by omega)]
   have hn : d.log2 < 32 := (Nat.log2_lt (by omega)).2 (by omega)
   have hn2 := (log_spec (d := d) (by omega)).2.2
   rw [hb] at hl
   generalize slot d = sl at *
   generalize d.log2 = n at *
   clear hb
   go_enter Tryz.func89, Tryz.ntmps89
   go_wp2_with fail
   refine (hl.out _).mono ?_
   rintro x w1 ⟨rfl, rfl⟩
   go_wp2
   go_ret
   have hdv : ((d : Int) / 2 ^ (n - 1)) = ((d / 2 ^ (n - 1) : Nat) : Int) := by simp
   have hle := Nat.div_le_self d (2 ^ (n - 1))
   have ha := and1 (d / 2 ^ (n - 1)) (by omega)
   rw [<- hdv] at ha
   have hsl := hs.out
   have hw1 : wrap64 (((d / 2 ^ (n - 1) % 2 : Nat) : Int)) = ((d / 2 ^ (n - 1) % 2 : Nat) : Int) := by unfold wrap64; omega
   have hw2 : wrap64 (2 * (n : Int) + ((d / 2 ^ (n - 1) % 2 : Nat) : Int)) = (sl : Int) := by unfold wrap64; omega
   exact ⟨ret_i (by rw [ha, hw1, hw2]), rfl⟩
theorem base_any (k : Int) (hk0 : -9223372036854775808 <= k) (hk1 : k <= 9223372036854775807) (w : World) : Calls Tryz.prog 85 #[.int .i64 k] w fun x w' => x = .returned (.tuple #[.int .u32 (if 0 <= k /\ k < 64 then (base k.toNat : Int) else 0), .int .i64 (if 0 <= k /\ k < 64 then (more k.toNat : Int) else 0)]) /\ w = w' := by
 by_cases h0 : k < 0
 · rw [if_neg (by omega), if_neg (by omega)]
   go_enter Tryz.func85, Tryz.ntmps85
   go_wp2
   go_ret2
   exact ⟨rfl, rfl⟩
 by_cases h1 : 64 <= k
 · rw [if_neg (by omega), if_neg (by omega)]
   go_enter Tryz.func85, Tryz.ntmps85
   go_wp2
   go_ret2
   exact ⟨rfl, rfl⟩
 obtain ⟨m, rfl⟩ := Int.eq_ofNat_of_zero_le (a := k) (by omega)
 rw [if_pos (by omega), if_pos (by omega), Int.toNat_natCast]
 by_cases h4 : m < 4
 · have e : base m = m := by unfold base; rw [if_pos h4]
   have e' : more m = 0 := by unfold more; rw [if_pos h4]
   rw [e, e']
   have c1 : (m : Int) < 4 := by omega
   go_enter Tryz.func85, Tryz.ntmps85
   go_wp2
   go_ret2
   exact ⟨rfl, rfl⟩
 · have c1 : ¬ (m : Int) < 4 := by omega
   go_enter Tryz.func85, Tryz.ntmps85
   go_wp2
   go_ret2
   have hp : 2 ^ (m / 2 - 1) <= 2 ^ 30 := Nat.pow_le_pow_right (by omega) (by omega)
   have hb3 : (2 + m % 2) * 2 ^ (m / 2 - 1) <= 3 * 2 ^ 30 := Nat.mul_le_mul (by omega) hp
   have e1 : (2 + (m : Int) % 2) * 2 ^ (m / 2 - 1) % 4294967296 = (base m : Int) := by
    have e2 : (2 + (m : Int) % 2) * 2 ^ (m / 2 - 1) = (((2 + m % 2) * 2 ^ (m / 2 - 1) : Nat) : Int) := by push_cast; rfl
    unfold base
    rw [if_neg h4, e2]
    omega
   have e3 : (m : Int) / 2 - 1 = (more m : Int) := by
    unfold more
    rw [if_neg h4]
    omega
   exact ⟨congrArg Ending.returned (congrArg Value.tuple (by simp only [e1, e3]; rfl)), rfl⟩
end Go.Proofs.YtfpoabeihpfeiaaGreat.St
end
section
namespace Go.Proofs.YtfpoabeihpfeiaaGreat.Mo
open Go.RowKit
open Rc
theorem mask_i64 (v n : Nat) (hv : v < 9223372036854775808) (hn : n <= 32) : bits .and .i64 (v : Int) (((2 : Int) ^ n) - 1) = ((v % 2 ^ n : Nat) : Int) := by
 have two63 : (2 : Int) ^ 63 = 9223372036854775808 := by decide
 have h := bits_mask .i64 63 (by decide) (fun n h0 h1 => by rw [two63] at h1; rw [IntKind.wrap_i64]; omega) n (by omega) (v : Int) (by omega) (by rw [two63]; omega)
 rw [h]
 push_cast
 rfl
theorem lowest_any (v n : Nat) (hv : v < 9223372036854775808) (hn : n <= 32) (w : World) : Calls Tryz.prog 72 #[.int .i64 v, .int .i64 n] w fun x w' => x = .returned (.int .i64 ((v % 2 ^ n : Nat) : Int)) /\ w = w' := by
 have hm := hid (mask_i64 v n hv hn)
 have hp : (2 : Nat) ^ n <= 2 ^ 32 := Nat.pow_le_pow_right (by omega) hn
 have hp0 := Nat.two_pow_pos n
 have e0 : ((2 : Int) ^ n) = ((2 ^ n : Nat) : Int) := by push_cast; rfl
 have e1 : wrap64 ((2 : Int) ^ n) = (2 : Int) ^ n := by rw [e0]; unfold wrap64; omega
 have e2 : wrap64 ((2 : Int) ^ n - 1) = (2 : Int) ^ n - 1 := by rw [e0]; unfold wrap64; omega
 have p1 : (0 : Int) <= (n : Int) := by omega
 have p2 : (n : Int) < 64 := by omega
 clear e0 hp hp0 hv
 go_enter Tryz.func72, Tryz.ntmps72
 go_wp2_with fail
 go_ret
 exact ⟨ret_i hm.out, rfl⟩
def Es.far (s : Es) (v n : Nat) : Es := (s.dir (v / 16) (n - 4)).bk 320 0 4 (v % 16)
def Ds.far (s : Ds) (n : Nat) : Ds := (s.dir (n - 4)).bk 320 0 4
def Ds.farV (s : Ds) (n : Nat) : Nat := 16 * s.dirV (n - 4) + (s.dir (n - 4)).bkV 320 0 4
section
variable {w : World} {O : Paint} {c cm a tot k gb cap nb : Nat} {tb : Nat -> Nat -> Nat} {s : Es} {d : Ds}
theorem dir_turns (s : Es) (v n : Nat) : (s.dir v n).e.turns <= s.e.turns + 3 * n := directN_turns s.e v n n
theorem far_enc (h : EncS w O c cm a k gb cap nb tb s) (ht : s.e.turns <= 800000) (v n : Nat) (hv : v < 2 ^ n) (hn : n <= 30) (hn4 : 4 <= n) :
  Calls Tryz.prog 90 #[.pointer (some ⟨k, 503, none⟩), .iface 114 (.agg #[.pointer (some ⟨a, 0, none⟩)]), .int .u32 v, .int .i64 n] w (EncTo w O c cm a k gb cap nb tb (s.far v n) (.int .u32 v)) := by
 have hp : (2 : Nat) ^ n <= 2 ^ 30 := Nat.pow_le_pow_right (by omega) hn
 have m_direct : ∀ W : World, (method 310 114 (.agg #[.pointer (some ⟨a, 0, none⟩)]) "cassone/model.direct").run Tryz.prog W = .ok (120, .agg #[.pointer (some ⟨a, 0, none⟩)]) W := fun _ => by kernel_rfl
 have n_back : ∀ W : World, (nilAhead 310 114 (.agg #[.pointer (some ⟨a, 0, none⟩)]) "cassone/model.back").run Tryz.prog W = .ok (some false) W := fun _ => by kernel_rfl
 have m_back : ∀ W : World, (method 310 114 (.agg #[.pointer (some ⟨a, 0, none⟩)]) "cassone/model.back").run Tryz.prog W = .ok (118, .agg #[.pointer (some ⟨a, 0, none⟩)]) W := fun _ => by kernel_rfl
 have HE := hid (show s.far v n = (s.dir (v / 16) (n - 4)).bk 320 0 4 (v % 16) from rfl)
 have HLO := hid (lowest_any v 4 (by omega) (by omega))
 have HD := hid (enc_direct h (by omega) (v / 16) (n - 4) (by omega) (by omega))
 have hT1 := dir_turns s (v / 16) (n - 4)
 have e1 : ((n - 4 : Nat) : Int) = (n : Int) - 4 := by omega
 have e3 : IntKind.i64.wrap (v : Int) = (v : Int) := IntWalk.i64_in _ (by omega)
 have hlo : v % 16 < 16 := by omega
 have hsum : v = 16 * (v / 16) + v % 16 := by omega
 have e2 : (v : Int) / 16 = ((v / 16 : Nat) : Int) := by omega
 have hvb : v < 1073741824 := by omega
 have HLO2 : Hid (∀ W, Calls Tryz.prog 72 #[.int .i64 v, .int .i64 4] W fun x w' => x = .returned (.int .i64 ((v % 16 : Nat) : Int)) /\ W = w') := HLO
 generalize s.far v n = sf at *
 generalize s.dir (v / 16) (n - 4) = s1 at *
 generalize v / 16 = hi at *
 generalize v % 16 = lo at *
 rw [e1] at HD
 have f1 : IntKind.u32.wrap ((hi : Int) * 16) = (hi : Int) * 16 := by rw [IntKind.wrap_u32]; omega
 have g2 : IntKind.u32.wrap (lo : Int) = (lo : Int) := by rw [IntKind.wrap_u32]; omega
 have g3 : IntKind.u32.wrap ((hi : Int) * 16 + (lo : Int)) = (v : Int) := by rw [IntKind.wrap_u32]; omega
 have HVB := hid hvb
 clear e1 hp hv h hvb hsum HLO
 go_enter Tryz.func90, Tryz.ntmps90
 go_wp2_with fail
 refine HD.out.mono ?_
 rintro x w1 ⟨rfl, O1, hs1, he1⟩
 have HS1 := hid hs1
 have l320 : tlen 320 0 = 2 ^ 4 := rfl
 have HB := hid (enc_back (x := 320) (y := 0) (n := 4) he1.drew (by omega) (by unfold isTree; omega) l320 (by omega) lo (by omega))
 rw [show tlen 320 0 = 16 from rfl, show tcap 320 0 = 16 from rfl] at HB
 have hc0 : ∀ (W : World) (O' : Paint) (s' : Es), EncS W O' c cm a k gb cap nb tb s' -> W.cell? ⟨k, 521, none⟩ = some (.slice (some ⟨tb 320 0, 0, none⟩) 16 16) := fun W O' s' h => h.lik.tree 320 0 (by unfold isTree; omega) (by omega)
 have HC0 := hid hc0
 have T1 := hid (hc0 _ _ _ he1.drew)
 have c0 := hc0 _ _ _ he1
 clear hs1 he1 hc0 HD l320
 go_upto_region 2 with (fail)
 go_cut [10] (fun v10 wc => v10 = .int .i64 lo /\ ∃ O', Step [c, cm] w O wc O' /\ EncS wc O' c cm a k gb cap nb tb sf)
 case first =>
  as_aux_lemma =>
  go_region_held3 (fun W => W.cell? ⟨k, 521, none⟩ = some (.slice (some ⟨tb 320 0, 0, none⟩) 16 16)) (first | exact T1.out | exact HC0.out _ _ _ ‹_› | go_keep) (first | (go_at_call 72; (with_reducible refine (HLO2.out _).mono ?_); rintro x w1 ⟨rfl, rfl⟩) | (go_at_call 118; (with_reducible refine HB.out.mono ?_); rintro x w2 ⟨rfl, O2, hs2, he2⟩))
  all_goals
   go_wp2_with fail
   go_meet
   exact ⟨rfl, O2, HS1.out.trans hs2.from_drew, by rw [HE.out]; exact he2⟩
 case rest =>
  obtain ⟨rfl, O2, hs2, he2⟩ := hcut
  have HS2 := hid hs2
  have HE2 := hid he2
  clear hs2 he2 HB T1 c0
  go_wp2_with fail
  go_ret
  exact ⟨rfl, O2, HS2.out, HE2.out⟩
-- GEN
theorem far_dec (h : DecS w O c cm a tot k gb cap nb tb d) (v n : Nat) (hv : v < 4294967296) (hn : n <= 30) (hn4 : 4 <= n) :
  Calls Tryz.prog 90 #[.pointer (some ⟨k, 503, none⟩), .iface 193 (.agg #[.pointer (some ⟨a, 0, none⟩)]), .int .u32 v, .int .i64 n] w (DecTo w O c cm a tot k gb cap nb tb (d.far n) (.int .u32 (d.farV n : Int))) := by
 have hp : (2 : Nat) ^ (n - 4) <= 2 ^ 26 := Nat.pow_le_pow_right (by omega) (by omega)
 have m_direct : ∀ W : World, (method 310 193 (.agg #[.pointer (some ⟨a, 0, none⟩)]) "cassone/model.direct").run Tryz.prog W = .ok (140, .agg #[.pointer (some ⟨a, 0, none⟩)]) W := fun _ => by kernel_rfl
 have n_back : ∀ W : World, (nilAhead 310 193 (.agg #[.pointer (some ⟨a, 0, none⟩)]) "cassone/model.back").run Tryz.prog W = .ok (some false) W := fun _ => by kernel_rfl
 have m_back : ∀ W : World, (method 310 193 (.agg #[.pointer (some ⟨a, 0, none⟩)]) "cassone/model.back").run Tryz.prog W = .ok (138, .agg #[.pointer (some ⟨a, 0, none⟩)]) W := fun _ => by kernel_rfl
 have HE := hid (show d.far n = (d.dir (n - 4)).bk 320 0 4 from rfl)
 have HV := hid (show d.farV n = 16 * d.dirV (n - 4) + (d.dir (n - 4)).bkV 320 0 4 from rfl)
 have HLO := hid (lowest_any v 4 (by omega) (by omega))
 have HD := hid (dec_direct h ((v / 16 : Nat) : Int) (n - 4) (by omega))
 have hdl : d.dirV (n - 4) < 67108864 := by
  have := gotN_lt d.d (n - 4)
  unfold Ds.dirV
  omega
 have e1 : ((n - 4 : Nat) : Int) = (n : Int) - 4 := by omega
 have e3 : IntKind.i64.wrap (v : Int) = (v : Int) := IntWalk.i64_in _ (by omega)
 have hlo : v % 16 < 16 := by omega
 have e2 : (v : Int) / 16 = ((v / 16 : Nat) : Int) := by omega
 have HLO2 : Hid (∀ W, Calls Tryz.prog 72 #[.int .i64 v, .int .i64 4] W fun x w' => x = .returned (.int .i64 ((v % 16 : Nat) : Int)) /\ W = w') := HLO
 generalize d.far n = sf at *
 generalize d.dir (n - 4) = s1 at *
 generalize d.dirV (n - 4) = hv1 at *
 generalize v / 16 = hi at *
 generalize v % 16 = lo at *
 rw [e1] at HD
 have f1 : IntKind.u32.wrap ((hv1 : Int) * 16) = (hv1 : Int) * 16 := by rw [IntKind.wrap_u32]; omega
 have HHV := hid hdl
 clear e1 hp hv h hdl HLO
 go_enter Tryz.func90, Tryz.ntmps90
 go_wp2_with fail
 refine HD.out.mono ?_
 rintro x w1 ⟨rfl, O1, hs1, he1⟩
 have HS1 := hid hs1
 have l320 : tlen 320 0 = 2 ^ 4 := rfl
 have HB := hid (dec_back (x := 320) (y := 0) (n := 4) he1.drew (by unfold isTree; omega) l320 (by omega) (lo : Int))
 have hvl : s1.bkV 320 0 4 < 16 := (he1.sok.tr true 320 0 (n := 4) (by rw [l320]; omega)).2
 rw [show s1.trV true 320 0 (tlen 320 0) 4 = s1.bkV 320 0 4 from rfl] at HB
 rw [show tlen 320 0 = 16 from rfl, show tcap 320 0 = 16 from rfl] at HB
 generalize s1.bkV 320 0 4 = lv at *
 have hc0 : ∀ (W : World) (O' : Paint) (s' : Ds), DecS W O' c cm a tot k gb cap nb tb s' -> W.cell? ⟨k, 521, none⟩ = some (.slice (some ⟨tb 320 0, 0, none⟩) 16 16) := fun W O' s' h => h.lik.tree 320 0 (by unfold isTree; omega) (by omega)
 have HC0 := hid hc0
 have T1 := hid (hc0 _ _ _ he1.drew)
 have c0 := hc0 _ _ _ he1
 clear hs1 he1 hc0 HD l320
 go_upto_region 2 with (fail)
 go_cut [10] (fun v10 wc => v10 = .int .i64 lv /\ ∃ O', Step [c, cm] w O wc O' /\ DecS wc O' c cm a tot k gb cap nb tb sf)
 case first =>
  as_aux_lemma =>
  go_region_held3 (fun W => W.cell? ⟨k, 521, none⟩ = some (.slice (some ⟨tb 320 0, 0, none⟩) 16 16)) (first | exact T1.out | exact HC0.out _ _ _ ‹_› | go_keep) (first | (go_at_call 72; (with_reducible refine (HLO2.out _).mono ?_); rintro x w1 ⟨rfl, rfl⟩) | (go_at_call 138; (with_reducible refine HB.out.mono ?_); rintro x w2 ⟨rfl, O2, hs2, he2⟩))
  all_goals
   go_wp2_with fail
   go_meet
   exact ⟨rfl, O2, HS1.out.trans hs2.from_drew, by rw [HE.out]; exact he2⟩
 case rest =>
  obtain ⟨rfl, O2, hs2, he2⟩ := hcut
  have HS2 := hid hs2
  have HE2 := hid he2
  have g2 : IntKind.u32.wrap (lv : Int) = (lv : Int) := by rw [IntKind.wrap_u32]; omega
  have g3 : IntKind.u32.wrap ((hv1 : Int) * 16 + (lv : Int)) = ((16 * hv1 + lv : Nat) : Int) := by have := HHV.out; rw [IntKind.wrap_u32]; omega
  clear hs2 he2 HB T1 c0
  go_wp2_with fail
  go_ret
  exact ⟨by rw [HV.out]; push_cast; rfl, O2, HS2.out, HE2.out⟩
def Es.dist (s : Es) (cl v : Nat) : Es :=
 if St.slot v < 14 then (s.num 300 cl 6 (St.slot v)).bk 310 (St.slot v) (St.more (St.slot v)) (v - St.base (St.slot v))
 else (s.num 300 cl 6 (St.slot v)).far (v - St.base (St.slot v)) (St.more (St.slot v))
def Ds.slotV (s : Ds) (cl : Nat) : Nat := s.numV 300 cl 6
def Ds.dist (s : Ds) (cl : Nat) : Ds :=
 if s.slotV cl < 14 then (s.num 300 cl 6).bk 310 (s.slotV cl) (St.more (s.slotV cl)) else (s.num 300 cl 6).far (St.more (s.slotV cl))
def Ds.distV (s : Ds) (cl : Nat) : Nat :=
 if s.slotV cl < 14 then St.base (s.slotV cl) + (s.num 300 cl 6).bkV 310 (s.slotV cl) (St.more (s.slotV cl)) else St.base (s.slotV cl) + (s.num 300 cl 6).farV (St.more (s.slotV cl))
theorem tr_turns6 (s : Es) (a b v : Nat) : (s.num a b 6 v).e.turns <= s.e.turns + 18 := s.tr_turns false a b _ 6 v
theorem base_nat (k : Nat) (hk : k < 64) (w : World) : Calls Tryz.prog 85 #[.int .i64 k] w fun x w' => x = .returned (.tuple #[.int .u32 (St.base k : Int), .int .i64 (St.more k : Int)]) /\ w = w' := by
 have h := St.base_any (k : Int) (by omega) (by omega) w
 rw [if_pos (by omega), if_pos (by omega), Int.toNat_natCast] at h
 exact h
theorem base_top (k : Nat) (hk : k < 64) : St.base k + 2 ^ St.more k <= 4294967296 := by
 unfold St.base St.more
 split
 · simp; omega
 · have h1 : 2 ^ (k / 2 - 1) <= 2 ^ 30 := Nat.pow_le_pow_right (by omega) (by omega)
   have h3 : (2 + k % 2) * 2 ^ (k / 2 - 1) <= 3 * 2 ^ (k / 2 - 1) := Nat.mul_le_mul (by omega) (Nat.le_refl _)
   omega
theorem base_small (k : Nat) : k < 14 -> St.base k <= 96 := by
 intro h
 have : k = 0 \/ k = 1 \/ k = 2 \/ k = 3 \/ k = 4 \/ k = 5 \/ k = 6 \/ k = 7 \/ k = 8 \/ k = 9 \/ k = 10 \/ k = 11 \/ k = 12 \/ k = 13 := by omega
 rcases this with h | h | h | h | h | h | h | h | h | h | h | h | h | h <;> subst h <;> decide
theorem farV_lt {d : Ds} (hd : d.Ok) {n : Nat} (hn : 4 <= n) : d.farV n < 2 ^ n := by
 have h1 := gotN_lt d.d (n - 4)
 have h2 : (d.dir (n - 4)).bkV 320 0 4 < 16 := ((show (d.dir (n - 4)).Ok from ⟨fine_gotN hd.fine _, hd.q⟩).tr true 320 0 (n := 4) (by rw [show tlen 320 0 = 16 from rfl]; omega)).2
 have h3 : (2 : Nat) ^ n = 16 * 2 ^ (n - 4) := by
  obtain ⟨m, rfl⟩ : ∃ m, n = m + 4 := ⟨n - 4, by omega⟩
  rw [Nat.add_sub_cancel, Nat.pow_add, Nat.mul_comm]
 unfold Ds.farV
 have h4 : d.dirV (n - 4) < 2 ^ (n - 4) := h1
 omega
theorem more_le (k : Nat) (hk : k < 64) : St.more k <= 30 /\ (14 <= k -> 6 <= St.more k) /\ (k < 14 -> St.more k <= 5) := by unfold St.more; split <;> omega
end
end Go.Proofs.YtfpoabeihpfeiaaGreat.Mo
end
section
namespace Go.Proofs.YtfpoabeihpfeiaaGreat.Mo
open Rc
open Pk (Rp Pt)
def atB (l : List UInt8) (d : Int) : Nat := if Wnd.there d l.length = true then (l.getD (l.length - d.toNat) 0).toNat else 0
theorem atB_lt (l : List UInt8) (d : Int) : atB l d < 256 := by
 unfold atB
 split
 · exact UInt8.toNat_lt _
 · omega
def ctx (lc lp : Nat) (l : List UInt8) : Nat := (l.length % 2 ^ lp) * 2 ^ lc + atB l 1 / 2 ^ (8 - lc)
theorem ctx_lt {lc lp : Nat} (h : lc + lp <= 4) (l : List UInt8) : ctx lc lp l < 2 ^ (lc + lp) := by
 have h1 := atB_lt l 1
 have h2 : atB l 1 / 2 ^ (8 - lc) < 2 ^ lc := by
  rw [Nat.div_lt_iff_lt_mul (Nat.two_pow_pos _), <- Nat.pow_add, show lc + (8 - lc) = 8 from by omega]
  omega
 have h3 : l.length % 2 ^ lp + 1 <= 2 ^ lp := Nat.mod_lt _ (Nat.two_pow_pos _)
 have h4 : (l.length % 2 ^ lp + 1) * 2 ^ lc <= 2 ^ lp * 2 ^ lc := Nat.mul_le_mul_right _ h3
 rw [Nat.add_mul] at h4
 unfold ctx
 rw [Nat.pow_add, Nat.mul_comm (2 ^ lc)]
 omega
def Es.byte (s : Es) (lc lp st : Nat) (l : List UInt8) (d : Int) (b : Nat) : Es := if st < 7 then s.num 100 (ctx lc lp l) 8 b else s.like 100 (ctx lc lp l) b (atB l d)
def Ds.byte (s : Ds) (lc lp st : Nat) (l : List UInt8) (d : Int) : Ds := if st < 7 then s.num 100 (ctx lc lp l) 8 else s.like 100 (ctx lc lp l) (atB l d)
def Ds.byteV (s : Ds) (lc lp st : Nat) (l : List UInt8) (d : Int) : Nat := if st < 7 then s.numV 100 (ctx lc lp l) 8 else s.likeV 100 (ctx lc lp l) (atB l d)
def Es.rep (s : Es) (st i : Nat) : Es := if i = 0 then s.one 3 st 0 0 else if i = 1 then (s.one 3 st 0 1).one 5 st 0 0 else ((s.one 3 st 0 1).one 5 st 0 1).one 6 st 0 (i - 2)
def Ds.rep (s : Ds) (st : Nat) : Ds := if s.bit 3 st 0 = 0 then s.one 3 st 0 else if (s.one 3 st 0).bit 5 st 0 = 0 then (s.one 3 st 0).one 5 st 0 else ((s.one 3 st 0).one 5 st 0).one 6 st 0
def Ds.repV (s : Ds) (st : Nat) : Nat := if s.bit 3 st 0 = 0 then 0 else if (s.one 3 st 0).bit 5 st 0 = 0 then 1 else 2 + ((s.one 3 st 0).one 5 st 0).bit 6 st 0
def cls (n : Nat) : Nat := min n 3
structure Ms where
 lc : Nat
 lp : Nat
 pb : Nat
 st : Nat
 l : List UInt8
 r : Rp
def Ms.here (m : Ms) : Nat := m.l.length % 2 ^ m.pb
def Es.lit (s : Es) (m : Ms) (b : Nat) : Es := (s.one 1 m.st m.here 0).byte m.lc m.lp m.st m.l m.r.a b
def Es.mat (s : Es) (m : Ms) (n v : Nat) : Es := (((s.one 1 m.st m.here 1).one 2 m.st 0 0).len 0 m.here n).dist (cls n) v
def Es.sho (s : Es) (m : Ms) : Es := (((s.one 1 m.st m.here 1).one 2 m.st 0 1).rep m.st 0).one 4 m.st m.here 0
def Es.rp0 (s : Es) (m : Ms) (n : Nat) : Es := ((((s.one 1 m.st m.here 1).one 2 m.st 0 1).rep m.st 0).one 4 m.st m.here 1).len 1 m.here n
def Es.rpi (s : Es) (m : Ms) (i n : Nat) : Es := (((s.one 1 m.st m.here 1).one 2 m.st 0 1).rep m.st i).len 1 m.here n
inductive Pk1 where
 | lit (b : Nat)
 | mat (n v : Nat)
 | sho
 | rep (i n : Nat)
def Pk1.Ok : Pk1 -> Prop
 | .lit b => b < 256
 | .mat n v => n <= 271 /\ v < 4294967296
 | .sho => True
 | .rep i n => i < 4 /\ n <= 271
def Pk1.pt : Pk1 -> Pt
 | .lit b => ⟨1, 0, 0, b⟩
 | .mat n v => ⟨2, ((v + 1) % 4294967296 : Nat), n + 2, 0⟩
 | .sho => ⟨4, 0, 0, 0⟩
 | .rep i n => ⟨3, i, n + 2, 0⟩
def Es.code (s : Es) (m : Ms) : Pk1 -> Es
 | .lit b => s.lit m b
 | .mat n v => s.mat m n v
 | .sho => s.sho m
 | .rep i n => if i = 0 then s.rp0 m n else s.rpi m i n
def Ds.s1 (s : Ds) (m : Ms) : Ds := s.one 1 m.st m.here
def Ds.s2 (s : Ds) (m : Ms) : Ds := (s.s1 m).one 2 m.st 0
def Ds.s3 (s : Ds) (m : Ms) : Ds := (s.s2 m).rep m.st
def Ds.code (s : Ds) (m : Ms) : Ds :=
 if s.bit 1 m.st m.here = 0 then (s.s1 m).byte m.lc m.lp m.st m.l m.r.a
 else if (s.s1 m).bit 2 m.st 0 = 0 then ((s.s2 m).len 0 m.here).dist (cls ((s.s2 m).lenV 0 m.here))
 else if (s.s2 m).repV m.st = 0 then (if (s.s3 m).bit 4 m.st m.here = 0 then (s.s3 m).one 4 m.st m.here else ((s.s3 m).one 4 m.st m.here).len 1 m.here)
 else (s.s3 m).len 1 m.here
def Ds.codeP (s : Ds) (m : Ms) : Pk1 :=
 if s.bit 1 m.st m.here = 0 then .lit ((s.s1 m).byteV m.lc m.lp m.st m.l m.r.a)
 else if (s.s1 m).bit 2 m.st 0 = 0 then .mat ((s.s2 m).lenV 0 m.here) (((s.s2 m).len 0 m.here).distV (cls ((s.s2 m).lenV 0 m.here)))
 else if (s.s2 m).repV m.st = 0 then (if (s.s3 m).bit 4 m.st m.here = 0 then .sho else .rep 0 (((s.s3 m).one 4 m.st m.here).lenV 1 m.here))
 else .rep ((s.s2 m).repV m.st) ((s.s3 m).lenV 1 m.here)
structure Ms.Ok (m : Ms) (nb : Nat) : Prop where
 st12 : m.st < 12
 lclp : m.lc + m.lp <= 4
 pb4 : m.pb <= 4
 nbe : nb = 2 ^ (m.lc + m.lp)
theorem Ms.Ok.here {m : Ms} {nb : Nat} (h : m.Ok nb) : m.here < 16 := by
 have h1 : 2 ^ m.pb <= 2 ^ 4 := Nat.pow_le_pow_right (by omega) h.pb4
 have h2 : m.here < 2 ^ m.pb := Nat.mod_lt _ (Nat.two_pow_pos _)
 omega
theorem Ms.Ok.ctx {m : Ms} {nb : Nat} (h : m.Ok nb) : isTree nb 100 (ctx m.lc m.lp m.l) := .inl ⟨rfl, by rw [h.nbe]; exact ctx_lt h.lclp _⟩
-- turns
theorem Es.like_turns (s : Es) (a b v o : Nat) : (s.like a b v o).e.turns <= s.e.turns + 24 := likeN_turns v o _ 8
theorem Es.num_turns (s : Es) (a b n v : Nat) : (s.num a b n v).e.turns <= s.e.turns + 3 * n := s.tr_turns false a b _ n v
theorem Es.bk_turns (s : Es) (a b n v : Nat) : (s.bk a b n v).e.turns <= s.e.turns + 3 * n := s.tr_turns true a b _ n v
theorem Es.byte_turns (s : Es) (lc lp st : Nat) (l : List UInt8) (d : Int) (b : Nat) : (s.byte lc lp st l d b).e.turns <= s.e.turns + 24 := by
 unfold Es.byte
 split
 · exact s.num_turns 100 _ 8 b
 · exact s.like_turns 100 _ b _
theorem Es.rep_turns (s : Es) (st i : Nat) : (s.rep st i).e.turns <= s.e.turns + 9 := by
 unfold Es.rep
 have h1 := s.one_turns 3 st 0 0
 have h2 := s.one_turns 3 st 0 1
 have h3 := (s.one 3 st 0 1).one_turns 5 st 0 0
 have h4 := (s.one 3 st 0 1).one_turns 5 st 0 1
 have h5 := ((s.one 3 st 0 1).one 5 st 0 1).one_turns 6 st 0 (i - 2)
 split
 · omega
 · split <;> omega
theorem Es.len_turns (s : Es) (u P n : Nat) : (s.len u P n).e.turns <= s.e.turns + 30 := by
 unfold Es.len
 split
 · have h1 := s.one_turns (200 + u) 0 0 0
   have h2 := (s.one (200 + u) 0 0 0).num_turns (210 + u) P 3 n
   omega
 · have h1 := s.one_turns (200 + u) 0 0 1
   split
   · have h3 := (s.one (200 + u) 0 0 1).one_turns (200 + u) 1 0 0
     have h2 := ((s.one (200 + u) 0 0 1).one (200 + u) 1 0 0).num_turns (220 + u) P 3 (n - 8)
     omega
   · have h3 := (s.one (200 + u) 0 0 1).one_turns (200 + u) 1 0 1
     have h2 := ((s.one (200 + u) 0 0 1).one (200 + u) 1 0 1).num_turns (230 + u) 0 8 (n - 16)
     omega
theorem Es.dist_turns (s : Es) (cl v : Nat) (hv : v < 4294967296) : (s.dist cl v).e.turns <= s.e.turns + 120 := by
 have hm := more_le (St.slot v) (St.slot_lt hv)
 unfold Es.dist Es.far
 have h1 := s.num_turns 300 cl 6 (St.slot v)
 split
 · have h2 := (s.num 300 cl 6 (St.slot v)).bk_turns 310 (St.slot v) (St.more (St.slot v)) (v - St.base (St.slot v))
   omega
 · have h2 := dir_turns (s.num 300 cl 6 (St.slot v)) ((v - St.base (St.slot v)) / 16) (St.more (St.slot v) - 4)
   have h3 := ((s.num 300 cl 6 (St.slot v)).dir ((v - St.base (St.slot v)) / 16) (St.more (St.slot v) - 4)).bk_turns 320 0 4 ((v - St.base (St.slot v)) % 16)
   omega
theorem Es.code_turns (s : Es) (m : Ms) {q : Pk1} (hq : q.Ok) : (s.code m q).e.turns <= s.e.turns + 200 := by
 have h0 := fun b => s.one_turns 1 m.st m.here b
 cases q with
 | lit b =>
  have := (s.one 1 m.st m.here 0).byte_turns m.lc m.lp m.st m.l m.r.a b
  have := h0 0
  show (s.lit m b).e.turns <= _
  unfold Es.lit
  omega
 | mat n v =>
  have h1 := h0 1
  have h2 := (s.one 1 m.st m.here 1).one_turns 2 m.st 0 0
  have h3 := ((s.one 1 m.st m.here 1).one 2 m.st 0 0).len_turns 0 m.here n
  have h4 := (((s.one 1 m.st m.here 1).one 2 m.st 0 0).len 0 m.here n).dist_turns (cls n) v hq.2
  show (s.mat m n v).e.turns <= _
  unfold Es.mat
  omega
 | sho =>
  have h1 := h0 1
  have h2 := (s.one 1 m.st m.here 1).one_turns 2 m.st 0 1
  have h3 := ((s.one 1 m.st m.here 1).one 2 m.st 0 1).rep_turns m.st 0
  have h4 := (((s.one 1 m.st m.here 1).one 2 m.st 0 1).rep m.st 0).one_turns 4 m.st m.here 0
  show (s.sho m).e.turns <= _
  unfold Es.sho
  omega
 | rep i n =>
  have h1 := h0 1
  have h2 := (s.one 1 m.st m.here 1).one_turns 2 m.st 0 1
  have h3 := fun i => ((s.one 1 m.st m.here 1).one 2 m.st 0 1).rep_turns m.st i
  show (if i = 0 then s.rp0 m n else s.rpi m i n).e.turns <= _
  split
  · have h4 := (((s.one 1 m.st m.here 1).one 2 m.st 0 1).rep m.st 0).one_turns 4 m.st m.here 1
    have h5 := ((((s.one 1 m.st m.here 1).one 2 m.st 0 1).rep m.st 0).one 4 m.st m.here 1).len_turns 1 m.here n
    have := h3 0
    unfold Es.rp0
    omega
  · have h5 := (((s.one 1 m.st m.here 1).one 2 m.st 0 1).rep m.st i).len_turns 1 m.here n
    have := h3 i
    unfold Es.rpi
    omega
-- bounds keep
theorem Es.Ok.num {s : Es} (h : s.Ok) (a b : Nat) {n : Nat} (v : Nat) (hn : 2 ^ n <= tlen a b) : (s.num a b n v).Ok := h.tr false a b v hn
theorem Es.Ok.bk {s : Es} (h : s.Ok) (a b : Nat) {n : Nat} (v : Nat) (hn : 2 ^ n <= tlen a b) : (s.bk a b n v).Ok := h.tr true a b v hn
theorem Es.Ok.like {s : Es} (h : s.Ok) (a b v o : Nat) : (s.like a b v o).Ok := by
 have hk := likeN_ok v o 768 (Nat.le_refl _) (h.t0 a b 768) 8 (Nat.le_refl _)
 exact ⟨hk.1, h.q.set a b hk.2.1⟩
theorem Es.Ok.dir {s : Es} (h : s.Ok) (v n : Nat) : (s.dir v n).Ok := ⟨fine_directN h.fine v n n, h.q⟩
theorem Ds.Ok.num {s : Ds} (h : s.Ok) (a b : Nat) {n : Nat} (hn : 2 ^ n <= tlen a b) : (s.num a b n).Ok /\ s.numV a b n < 2 ^ n := h.tr false a b hn
theorem Ds.Ok.bk {s : Ds} (h : s.Ok) (a b : Nat) {n : Nat} (hn : 2 ^ n <= tlen a b) : (s.bk a b n).Ok /\ s.bkV a b n < 2 ^ n := h.tr true a b hn
theorem Ds.Ok.dir {s : Ds} (h : s.Ok) (n : Nat) : (s.dir n).Ok := ⟨fine_gotN h.fine n, h.q⟩
end Go.Proofs.YtfpoabeihpfeiaaGreat.Mo
end
