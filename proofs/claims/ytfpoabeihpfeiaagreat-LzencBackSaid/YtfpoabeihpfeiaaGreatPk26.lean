/-
  Plain mathematics of layer 10: a packet that was put is got again.
  Package model: a packet as bits: code, put and got, all cases together; the end.
-/
import Derived.Test.YtfpoabeihpfeiaaGreatPk14
import Derived.Test.YtfpoabeihpfeiaaGreatPk22
import Derived.Test.YtfpoabeihpfeiaaGreatPk23
import Derived.Test.YtfpoabeihpfeiaaGreatPk24
import Derived.Test.YtfpoabeihpfeiaaGreatPk25

set_option maxRecDepth 100000
set_option maxHeartbeats 16000000
set_option linter.unusedVariables false
set_option linter.unusedSimpArgs false
section
namespace Go.Proofs.YtfpoabeihpfeiaaGreat.Mo
open Rc
open Pk (Rp Pt)
theorem putN_aheadM {back : Bool} {n v F T M : Nat} {s : Tr} (hs : s.Ok M 0) (hM : 2 ^ n <= M) (h : Ahead (putN back n v s n).e F T) : ∀ d i, i + d = n -> Ahead (putN back n v s i).e F T := by
 intro d
 induction d with
 | zero => intro i hi; rw [Nat.add_zero] at hi; rw [hi]; exact h
 | succ d ih =>
  intro i hi
  have h1 := ih (i + 1) (by omega)
  have hok := putN_okM back n v hs hM i (by omega)
  have hm : (putN back n v s i).m < 2 ^ n := Nat.lt_of_lt_of_le hok.2.2.2 (Nat.pow_le_pow_right (by omega) (by omega))
  have hp := probs_get hok.2.1 (show (putN back n v s i).m < (putN back n v s i).l.length by rw [hok.2.2.1]; omega)
  exact ahead_bit hok.1 (show (putN back n v s i).l.getD (putN back n v s i).m 0 <= 2047 by omega) h1
theorem follow_putNM {back : Bool} {n v F T M : Nat} {s : Tr} {sd : Td} {more : List UInt8} (hs : s.Ok M 0) (hM : 2 ^ n <= M) (hv : v < 2 ^ n) (h : Ahead (putN back n v s n).e F T) (hl : sd.l = s.l) (hm : sd.m = s.m) (hv0 : sd.v = 0) (hf : Follows sd.d s.e F T more) :
  ∀ i, i <= n -> (getN back sd i).l = (putN back n v s i).l /\ (getN back sd i).m = (putN back n v s i).m /\ (getN back sd i).v = gotV back n v i /\ Follows (getN back sd i).d (putN back n v s i).e F T more := by
 intro i
 induction i with
 | zero =>
  intro _
  refine ⟨hl, hm, ?_, hf⟩
  show sd.v = _
  rw [hv0]
  unfold gotV
  cases back
  · simp only [Bool.false_eq_true, if_false, Nat.sub_zero]; rw [Nat.div_eq_of_lt hv]
  · simp only [if_true, Nat.pow_zero]; omega
 | succ i ih =>
  intro hi
  obtain ⟨h1, h2, h3, h4⟩ := ih (by omega)
  have hok := putN_okM back n v hs hM i (by omega)
  have hmm : (putN back n v s i).m < M := Nat.lt_of_lt_of_le (Nat.lt_of_lt_of_le hok.2.2.2 (Nat.pow_le_pow_right (by omega) (show i + 1 <= n by omega))) hM
  have ha := putN_aheadM hs hM h (n - (i + 1)) (i + 1) (by omega)
  have hb : (if back then bitAt v i else bitAt v (n - 1 - i)) <= 1 := by split <;> exact bitAt_le _ _
  obtain ⟨k1, k2, k3, k4⟩ := follow_at (v := (if back then (getN back sd i).v + (getN back sd i).bit (getN back sd i).m * 2 ^ i else 2 * (getN back sd i).v + (getN back sd i).bit (getN back sd i).m)) hok hmm hb h1 h2 h4 ha
  rw [<- h2] at k1 k2 k3 k4
  refine ⟨?_, ?_, ?_, ?_⟩
  · show ((getN back sd i).at (getN back sd i).m _).l = ((putN back n v s i).at (putN back n v s i).m _).l
    rw [<- h2]; exact k2
  · show ((getN back sd i).at (getN back sd i).m _).m = ((putN back n v s i).at (putN back n v s i).m _).m
    rw [<- h2]; exact k3
  · rw [<- gotV_step back n v i (by omega), <- h3]
    show (if back then _ else _) = _
    rw [k1]
  · show Follows ((getN back sd i).at (getN back sd i).m _).d ((putN back n v s i).at (putN back n v s i).m _).e F T more
    rw [<- h2]; exact k4
theorem directN_ahead {e : Enc} {v n F T : Nat} (h : Ahead (directN v n e n) F T) : ∀ d i, i + d = n -> Ahead (directN v n e i) F T := by
 intro d
 induction d with
 | zero => intro i hi; rw [Nat.add_zero] at hi; rw [hi]; exact h
 | succ d ih => intro i hi; exact ahead_direct (ih (i + 1) (by omega))
theorem follow_directN {e : Enc} {d : Dec} {v n F T : Nat} {more : List UInt8} (hv : v < 2 ^ n) (h : Ahead (directN v n e n) F T) (hf : Follows d e F T more) :
  ∀ i, i <= n -> (gotN d i).2 = v / 2 ^ (n - i) /\ Follows (gotN d i).1 (directN v n e i) F T more := by
 intro i
 induction i with
 | zero => intro _; exact ⟨by show 0 = _; rw [Nat.sub_zero, Nat.div_eq_of_lt hv], hf⟩
 | succ i ih =>
  intro hi
  obtain ⟨h1, h2⟩ := ih (by omega)
  have ha := directN_ahead h (n - (i + 1)) (i + 1) (by omega)
  obtain ⟨k1, k2⟩ := follows_direct (bitAt_le v (n - 1 - i)) h2 ha
  refine ⟨?_, k2⟩
  show 2 * (gotN d i).2 + (gotN d i).1.directOf = _
  rw [h1, k1]
  unfold bitAt
  have e : n - i = (n - (i + 1)) + 1 := by omega
  have e2 : n - 1 - i = n - (i + 1) := by omega
  rw [e, e2, Nat.pow_succ, <- Nat.div_div_eq_div_mul]
  omega
structure Fol (d : Ds) (s : Es) (F T : Nat) (more : List UInt8) : Prop where
 f : Follows d.d s.e F T more
 q : d.q = s.q
section
variable {d : Ds} {s : Es} {F T : Nat} {more : List UInt8}
theorem ahead_one (h : s.Ok) {a b c v : Nat} (ha : Ahead (s.one a b c v).e F T) : Ahead s.e F T := by
 have hp := h.q a b c
 exact ahead_bit h.fine (show s.q a b c <= 2047 by omega) ha
theorem fol_one (h : s.Ok) {a b c v : Nat} (hv : v <= 1) (ha : Ahead (s.one a b c v).e F T) (hf : Fol d s F T more) : d.bit a b c = v /\ Fol (d.one a b c) (s.one a b c v) F T more := by
 have hp := h.q a b c
 obtain ⟨h1, h2⟩ := follows_bit h.fine (show s.q a b c <= 2047 by omega) hv hf.f ha
 have hb : d.bit a b c = v := by unfold Ds.bit; rw [hf.q]; exact h1
 refine ⟨hb, ?_, ?_⟩
 · show Follows (d.d.getBit (d.q a b c)) _ F T more
   rw [hf.q]; exact h2
 · show qone d.q a b c (learn (d.q a b c) (d.bit a b c)) = qone s.q a b c (learn (s.q a b c) v)
   rw [hb, hf.q]
theorem ahead_tr (h : s.Ok) {back : Bool} {a b n len v : Nat} (hn : 2 ^ n <= len) (ha : Ahead (s.tr back a b len n v).e F T) : Ahead s.e F T := putN_aheadM (h.t0 a b len) hn ha n 0 (by omega)
theorem fol_tr (h : s.Ok) {back : Bool} {a b n len v : Nat} (hn : 2 ^ n <= len) (hv : v < 2 ^ n) (ha : Ahead (s.tr back a b len n v).e F T) (hf : Fol d s F T more) : d.trV back a b len n = v /\ Fol (d.tr back a b len n) (s.tr back a b len n v) F T more := by
 obtain ⟨k1, k2, k3, k4⟩ := follow_putNM (sd := d.t0 a b len) (h.t0 a b len) hn hv ha (by show tl d.q a b len = tl s.q a b len; rw [hf.q]) rfl rfl hf.f n (Nat.le_refl _)
 refine ⟨?_, k4, ?_⟩
 · show (getN back (d.t0 a b len) n).v = v
   rw [k3]
   unfold gotV
   cases back
   · simp
   · simp only [if_true]; exact Nat.mod_eq_of_lt hv
 · show qset d.q a b (getN back (d.t0 a b len) n).l = qset s.q a b (putN back n v (s.t0 a b len) n).l
   rw [k1, hf.q]
theorem ahead_num (h : s.Ok) {a b n v : Nat} (hn : 2 ^ n <= tlen a b) (ha : Ahead (s.num a b n v).e F T) : Ahead s.e F T := ahead_tr h hn ha
theorem ahead_bk (h : s.Ok) {a b n v : Nat} (hn : 2 ^ n <= tlen a b) (ha : Ahead (s.bk a b n v).e F T) : Ahead s.e F T := ahead_tr h hn ha
theorem fol_num (h : s.Ok) {a b n v : Nat} (hn : 2 ^ n <= tlen a b) (hv : v < 2 ^ n) (ha : Ahead (s.num a b n v).e F T) (hf : Fol d s F T more) : d.numV a b n = v /\ Fol (d.num a b n) (s.num a b n v) F T more := fol_tr h hn hv ha hf
theorem fol_bk (h : s.Ok) {a b n v : Nat} (hn : 2 ^ n <= tlen a b) (hv : v < 2 ^ n) (ha : Ahead (s.bk a b n v).e F T) (hf : Fol d s F T more) : d.bkV a b n = v /\ Fol (d.bk a b n) (s.bk a b n v) F T more := fol_tr h hn hv ha hf
theorem ahead_like (h : s.Ok) {a b v o : Nat} (ha : Ahead (s.like a b v o).e F T) : Ahead s.e F T := likeN_ahead (Nat.le_refl _) (h.t0 a b 768) ha 8 0 (Nat.zero_add _)
theorem fol_like (h : s.Ok) {a b v o : Nat} (hv : v < 256) (ha : Ahead (s.like a b v o).e F T) (hf : Fol d s F T more) : d.likeV a b o = v /\ Fol (d.like a b o) (s.like a b v o) F T more := by
 obtain ⟨k1, k2, k3, k4⟩ := follow_likeN (sd := d.t0 a b 768) (Nat.le_refl _) (h.t0 a b 768) ha (by show tl d.q a b 768 = tl s.q a b 768; rw [hf.q]) rfl hf.f 8 (Nat.le_refl _)
 refine ⟨?_, k4, ?_⟩
 · show (gotLike o (d.t0 a b 768) 8).1.m % 256 = v
   rw [k2, likeN_m hv (show (s.t0 a b 768).m = 1 from rfl) 8 (Nat.le_refl _)]
   simp
   omega
 · show qset d.q a b (gotLike o (d.t0 a b 768) 8).1.l = qset s.q a b (likeN v o (s.t0 a b 768) 8).1.l
   rw [k1, hf.q]
theorem ahead_dir {v n : Nat} (ha : Ahead (s.dir v n).e F T) : Ahead s.e F T := directN_ahead ha n 0 (by omega)
theorem fol_dir {v n : Nat} (hv : v < 2 ^ n) (ha : Ahead (s.dir v n).e F T) (hf : Fol d s F T more) : d.dirV n = v /\ Fol (d.dir n) (s.dir v n) F T more := by
 obtain ⟨k1, k2⟩ := follow_directN hv ha hf.f n (Nat.le_refl _)
 exact ⟨by show (gotN d.d n).2 = v; rw [k1]; simp, k2, hf.q⟩
theorem l100 (b : Nat) : 2 ^ 8 <= tlen 100 b := by rw [show tlen 100 b = 768 from rfl]; exact Nat.le_of_ble_eq_true rfl
theorem l300 (b : Nat) : 2 ^ 6 <= tlen 300 b := by rw [show tlen 300 b = 64 from rfl]; omega
theorem l320 (b : Nat) : 2 ^ 4 <= tlen 320 b := by rw [show tlen 320 b = 16 from rfl]; omega
theorem l310 (b : Nat) : 2 ^ St.more b <= tlen 310 b := by rw [show tlen 310 b = 2 ^ St.more b from rfl]; omega
theorem l3 (a b : Nat) (h : a = 210 \/ a = 211 \/ a = 220 \/ a = 221) : 2 ^ 3 <= tlen a b := by rcases h with rfl | rfl | rfl | rfl <;> exact Nat.le_refl _
theorem l8 (a b : Nat) (h : a = 230 \/ a = 231) : 2 ^ 8 <= tlen a b := by rcases h with rfl | rfl <;> exact Nat.le_refl _
theorem Es.Ok.byte (h : s.Ok) (lc lp st : Nat) (l : List UInt8) (r : Int) (b : Nat) : (s.byte lc lp st l r b).Ok := by
 unfold Es.byte
 split
 · exact h.num _ _ _ (l100 _)
 · exact h.like _ _ _ _
theorem ahead_byte (h : s.Ok) {lc lp st : Nat} {l : List UInt8} {r : Int} {b : Nat} (ha : Ahead (s.byte lc lp st l r b).e F T) : Ahead s.e F T := by
 unfold Es.byte at ha
 split at ha
 · exact ahead_num h (l100 _) ha
 · exact ahead_like h ha
theorem fol_byte (h : s.Ok) {lc lp st : Nat} {l : List UInt8} {r : Int} {b : Nat} (hb : b < 256) (ha : Ahead (s.byte lc lp st l r b).e F T) (hf : Fol d s F T more) : d.byteV lc lp st l r = b /\ Fol (d.byte lc lp st l r) (s.byte lc lp st l r b) F T more := by
 unfold Es.byte Ds.byte Ds.byteV at *
 split
 · rename_i hc
   rw [if_pos hc] at ha
   exact fol_num h (l100 _) (by omega) ha hf
 · rename_i hc
   rw [if_neg hc] at ha
   exact fol_like h hb ha hf
theorem Es.Ok.rep (h : s.Ok) (st i : Nat) : (s.rep st i).Ok := by
 unfold Es.rep
 split
 · exact h.one _ _ _ _
 · split
   · exact (h.one _ _ _ _).one _ _ _ _
   · exact ((h.one _ _ _ _).one _ _ _ _).one _ _ _ _
theorem ahead_rep (h : s.Ok) {st i : Nat} (ha : Ahead (s.rep st i).e F T) : Ahead s.e F T := by
 unfold Es.rep at ha
 split at ha
 · exact ahead_one h ha
 · split at ha
   · exact ahead_one h (ahead_one (h.one _ _ _ _) ha)
   · exact ahead_one h (ahead_one (h.one _ _ _ _) (ahead_one ((h.one _ _ _ _).one _ _ _ _) ha))
theorem fol_rep (h : s.Ok) {st i : Nat} (hi : i < 4) (ha : Ahead (s.rep st i).e F T) (hf : Fol d s F T more) : d.repV st = i /\ Fol (d.rep st) (s.rep st i) F T more := by
 unfold Es.rep Ds.rep Ds.repV at *
 by_cases h0 : i = 0
 · subst h0
   rw [if_pos rfl] at ha ⊢
   obtain ⟨b1, f1⟩ := fol_one h (by omega) ha hf
   rw [if_pos b1, if_pos b1]
   exact ⟨rfl, f1⟩
 · rw [if_neg h0] at ha ⊢
   by_cases h1 : i = 1
   · subst h1
     rw [if_pos rfl] at ha ⊢
     obtain ⟨b1, f1⟩ := fol_one h (by omega) (ahead_one (h.one _ _ _ _) ha) hf
     obtain ⟨b2, f2⟩ := fol_one (h.one _ _ _ _) (by omega) ha f1
     have n1 : ¬ d.bit 3 st 0 = 0 := by omega
     rw [if_neg n1, if_neg n1, if_pos b2, if_pos b2]
     exact ⟨rfl, f2⟩
   · rw [if_neg h1] at ha ⊢
     have a2 := ahead_one ((h.one _ _ _ _).one _ _ _ _) ha
     obtain ⟨b1, f1⟩ := fol_one h (by omega) (ahead_one (h.one _ _ _ _) a2) hf
     obtain ⟨b2, f2⟩ := fol_one (h.one _ _ _ _) (by omega) a2 f1
     obtain ⟨b3, f3⟩ := fol_one ((h.one _ _ _ _).one _ _ _ _) (show i - 2 <= 1 by omega) ha f2
     have n1 : ¬ d.bit 3 st 0 = 0 := by omega
     have n2 : ¬ (d.one 3 st 0).bit 5 st 0 = 0 := by omega
     rw [if_neg n1, if_neg n1, if_neg n2, if_neg n2]
     exact ⟨by omega, f3⟩
theorem Es.Ok.len (h : s.Ok) {u : Nat} (hu : u <= 1) (P n : Nat) : (s.len u P n).Ok := by
 unfold Es.len
 split
 · exact (h.one _ _ _ _).num _ _ _ (l3 _ _ (by omega))
 · split
   · exact ((h.one _ _ _ _).one _ _ _ _).num _ _ _ (l3 _ _ (by omega))
   · exact ((h.one _ _ _ _).one _ _ _ _).num _ _ _ (l8 _ _ (by omega))
theorem ahead_len (h : s.Ok) {u P n : Nat} (hu : u <= 1) (ha : Ahead (s.len u P n).e F T) : Ahead s.e F T := by
 unfold Es.len at ha
 split at ha
 · exact ahead_one h (ahead_num (h.one _ _ _ _) (l3 _ _ (by omega)) ha)
 · split at ha
   · exact ahead_one h (ahead_one (h.one _ _ _ _) (ahead_num ((h.one _ _ _ _).one _ _ _ _) (l3 _ _ (by omega)) ha))
   · exact ahead_one h (ahead_one (h.one _ _ _ _) (ahead_num ((h.one _ _ _ _).one _ _ _ _) (l8 _ _ (by omega)) ha))
theorem fol_len (h : s.Ok) {u P n : Nat} (hu : u <= 1) (hn : n <= 271) (ha : Ahead (s.len u P n).e F T) (hf : Fol d s F T more) : d.lenV u P = n /\ Fol (d.len u P) (s.len u P n) F T more := by
 unfold Es.len Ds.len Ds.lenV at *
 by_cases h8 : n < 8
 · rw [if_pos h8] at ha ⊢
   obtain ⟨b1, f1⟩ := fol_one h (by omega) (ahead_num (h.one _ _ _ _) (l3 _ _ (by omega)) ha) hf
   obtain ⟨b2, f2⟩ := fol_num (h.one _ _ _ _) (l3 _ _ (by omega)) (by omega) ha f1
   rw [if_pos b1, if_pos b1]
   exact ⟨b2, f2⟩
 · rw [if_neg h8] at ha ⊢
   by_cases h16 : n < 16
   · rw [if_pos h16] at ha ⊢
     have a2 := ahead_num ((h.one _ _ _ _).one _ _ _ _) (l3 _ _ (by omega)) ha
     obtain ⟨b1, f1⟩ := fol_one h (by omega) (ahead_one (h.one _ _ _ _) a2) hf
     obtain ⟨b2, f2⟩ := fol_one (h.one _ _ _ _) (by omega) a2 f1
     obtain ⟨b3, f3⟩ := fol_num ((h.one _ _ _ _).one _ _ _ _) (l3 _ _ (by omega)) (by omega) ha f2
     have n1 : ¬ d.bit (200 + u) 0 0 = 0 := by omega
     rw [if_neg n1, if_neg n1, if_pos b2, if_pos b2]
     exact ⟨by rw [b3]; omega, f3⟩
   · rw [if_neg h16] at ha ⊢
     have a2 := ahead_num ((h.one _ _ _ _).one _ _ _ _) (l8 _ _ (by omega)) ha
     obtain ⟨b1, f1⟩ := fol_one h (by omega) (ahead_one (h.one _ _ _ _) a2) hf
     obtain ⟨b2, f2⟩ := fol_one (h.one _ _ _ _) (by omega) a2 f1
     obtain ⟨b3, f3⟩ := fol_num ((h.one _ _ _ _).one _ _ _ _) (l8 _ _ (by omega)) (by omega) ha f2
     have n1 : ¬ d.bit (200 + u) 0 0 = 0 := by omega
     have n2 : ¬ (d.one (200 + u) 0 0).bit (200 + u) 1 0 = 0 := by omega
     rw [if_neg n1, if_neg n1, if_neg n2, if_neg n2]
     exact ⟨by rw [b3]; omega, f3⟩
theorem Es.Ok.far (h : s.Ok) (v n : Nat) : (s.far v n).Ok := (h.dir _ _).bk _ _ _ (l320 _)
theorem ahead_far (h : s.Ok) {v n : Nat} (ha : Ahead (s.far v n).e F T) : Ahead s.e F T := ahead_dir (ahead_bk (h.dir _ _) (l320 _) ha)
theorem fol_far (h : s.Ok) {v n : Nat} (hv : v < 2 ^ n) (hn : 4 <= n) (ha : Ahead (s.far v n).e F T) (hf : Fol d s F T more) : d.farV n = v /\ Fol (d.far n) (s.far v n) F T more := by
 have hp : 2 ^ n = 2 ^ (n - 4) * 16 := by
  obtain ⟨m, rfl⟩ : ∃ m, n = m + 4 := ⟨n - 4, by omega⟩
  rw [Nat.add_sub_cancel, Nat.pow_add]
 obtain ⟨b1, f1⟩ := fol_dir (by omega) (ahead_bk (h.dir _ _) (l320 _) ha) hf
 obtain ⟨b2, f2⟩ := fol_bk (h.dir _ _) (l320 _) (by omega) ha f1
 refine ⟨?_, f2⟩
 unfold Ds.farV
 rw [b1, b2]
 omega
theorem Es.Ok.dist (h : s.Ok) (cl v : Nat) : (s.dist cl v).Ok := by
 unfold Es.dist
 split
 · exact (h.num _ _ _ (l300 _)).bk _ _ _ (l310 _)
 · exact (h.num _ _ _ (l300 _)).far _ _
theorem ahead_dist (h : s.Ok) {cl v : Nat} (ha : Ahead (s.dist cl v).e F T) : Ahead s.e F T := by
 unfold Es.dist at ha
 split at ha
 · exact ahead_num h (l300 _) (ahead_bk (h.num _ _ _ (l300 _)) (l310 _) ha)
 · exact ahead_num h (l300 _) (ahead_far (h.num _ _ _ (l300 _)) ha)
theorem fol_dist (h : s.Ok) {cl v : Nat} (hv : v < 4294967296) (ha : Ahead (s.dist cl v).e F T) (hf : Fol d s F T more) : d.distV cl = v /\ Fol (d.dist cl) (s.dist cl v) F T more := by
 have hsl := St.slot_lt hv
 obtain ⟨hb1, hb2⟩ := St.base_slot v
 have hm := more_le (St.slot v) hsl
 unfold Es.dist Ds.dist Ds.distV Ds.slotV at *
 by_cases h14 : St.slot v < 14
 · rw [if_pos h14] at ha ⊢
   obtain ⟨b1, f1⟩ := fol_num h (l300 _) (by omega) (ahead_bk (h.num _ _ _ (l300 _)) (l310 _) ha) hf
   obtain ⟨b2, f2⟩ := fol_bk (h.num _ _ _ (l300 _)) (l310 _) hb2 ha f1
   rw [b1, if_pos h14, if_pos h14]
   exact ⟨by rw [b2]; omega, f2⟩
 · rw [if_neg h14] at ha ⊢
   obtain ⟨b1, f1⟩ := fol_num h (l300 _) (by omega) (ahead_far (h.num _ _ _ (l300 _)) ha) hf
   obtain ⟨b2, f2⟩ := fol_far (h.num _ _ _ (l300 _)) hb2 (by omega) ha f1
   rw [b1, if_neg h14, if_neg h14]
   exact ⟨by rw [b2]; omega, f2⟩
theorem Es.Ok.code (h : s.Ok) (m : Ms) (q : Pk1) : (s.code m q).Ok := by
 cases q with
 | lit b => exact (h.one _ _ _ _).byte _ _ _ _ _ _
 | mat n v => exact (((h.one _ _ _ _).one _ _ _ _).len (by omega) _ _).dist _ _
 | sho => exact (((h.one _ _ _ _).one _ _ _ _).rep _ _).one _ _ _ _
 | rep i n =>
  show (if i = 0 then s.rp0 m n else s.rpi m i n).Ok
  split
  · exact ((((h.one _ _ _ _).one _ _ _ _).rep _ _).one _ _ _ _).len (by omega) _ _
  · exact (((h.one _ _ _ _).one _ _ _ _).rep _ _).len (by omega) _ _
theorem ahead_code (h : s.Ok) {m : Ms} {q : Pk1} (ha : Ahead (s.code m q).e F T) : Ahead s.e F T := by
 cases q with
 | lit b => exact ahead_one h (ahead_byte (h.one _ _ _ _) ha)
 | mat n v => exact ahead_one h (ahead_one (h.one _ _ _ _) (ahead_len ((h.one _ _ _ _).one _ _ _ _) (by omega) (ahead_dist (((h.one _ _ _ _).one _ _ _ _).len (by omega) _ _) ha)))
 | sho => exact ahead_one h (ahead_one (h.one _ _ _ _) (ahead_rep ((h.one _ _ _ _).one _ _ _ _) (ahead_one (((h.one _ _ _ _).one _ _ _ _).rep _ _) ha)))
 | rep i n =>
  change Ahead (if i = 0 then s.rp0 m n else s.rpi m i n).e F T at ha
  split at ha
  · exact ahead_one h (ahead_one (h.one _ _ _ _) (ahead_rep ((h.one _ _ _ _).one _ _ _ _) (ahead_one (((h.one _ _ _ _).one _ _ _ _).rep _ _) (ahead_len ((((h.one _ _ _ _).one _ _ _ _).rep _ _).one _ _ _ _) (by omega) ha))))
  · exact ahead_one h (ahead_one (h.one _ _ _ _) (ahead_rep ((h.one _ _ _ _).one _ _ _ _) (ahead_len (((h.one _ _ _ _).one _ _ _ _).rep _ _) (by omega) ha)))
theorem fol_code (h : s.Ok) {m : Ms} {q : Pk1} (hq : q.Ok) (ha : Ahead (s.code m q).e F T) (hf : Fol d s F T more) : d.codeP m = q /\ Fol (d.code m) (s.code m q) F T more := by
 unfold Ds.codeP Ds.code
 cases q with
 | lit b =>
  obtain ⟨b1, f1⟩ := fol_one (v := 0) h (by omega) (ahead_byte (h.one _ _ _ _) ha) hf
  obtain ⟨b2, f2⟩ := fol_byte (h.one _ _ _ _) hq ha f1
  rw [if_pos b1, if_pos b1]
  exact ⟨by rw [show d.s1 m = d.one 1 m.st m.here from rfl, b2], f2⟩
 | mat n v =>
  have o1 := h.one 1 m.st m.here 1
  have o2 := o1.one 2 m.st 0 0
  have o3 := o2.len (u := 0) (by omega) m.here n
  have a3 : Ahead (((s.one 1 m.st m.here 1).one 2 m.st 0 0).len 0 m.here n).e F T := ahead_dist o3 ha
  have a2 := ahead_len o2 (by omega) a3
  obtain ⟨b1, f1⟩ := fol_one h (by omega) (ahead_one o1 a2) hf
  obtain ⟨b2, f2⟩ := fol_one o1 (by omega) a2 f1
  obtain ⟨b3, f3⟩ := fol_len o2 (by omega) hq.1 a3 f2
  obtain ⟨b4, f4⟩ := fol_dist o3 hq.2 ha f3
  have b2' : (d.s1 m).bit 2 m.st 0 = 0 := b2
  have b3' : (d.s2 m).lenV 0 m.here = n := b3
  have b4' : ((d.s2 m).len 0 m.here).distV (cls n) = v := b4
  have n1 : ¬ d.bit 1 m.st m.here = 0 := by omega
  rw [if_neg n1, if_neg n1, if_pos b2', if_pos b2', b3', b4']
  exact ⟨rfl, f4⟩
 | sho =>
  have o1 := h.one 1 m.st m.here 1
  have o2 := o1.one 2 m.st 0 1
  have o3 := o2.rep m.st 0
  have a3 : Ahead (((s.one 1 m.st m.here 1).one 2 m.st 0 1).rep m.st 0).e F T := ahead_one o3 ha
  have a2 := ahead_rep o2 a3
  obtain ⟨b1, f1⟩ := fol_one h (by omega) (ahead_one o1 a2) hf
  obtain ⟨b2, f2⟩ := fol_one o1 (by omega) a2 f1
  obtain ⟨b3, f3⟩ := fol_rep o2 (by omega) a3 f2
  obtain ⟨b4, f4⟩ := fol_one (v := 0) o3 (by omega) ha f3
  have b2' : (d.s1 m).bit 2 m.st 0 = 1 := b2
  have b3' : (d.s2 m).repV m.st = 0 := b3
  have b4' : (d.s3 m).bit 4 m.st m.here = 0 := b4
  have n1 : ¬ d.bit 1 m.st m.here = 0 := by omega
  have n2 : ¬ (d.s1 m).bit 2 m.st 0 = 0 := by omega
  rw [if_neg n1, if_neg n1, if_neg n2, if_neg n2, if_pos b3', if_pos b3', if_pos b4', if_pos b4']
  exact ⟨rfl, f4⟩
 | rep i n =>
  have o1 := h.one 1 m.st m.here 1
  have o2 := o1.one 2 m.st 0 1
  have o3 := o2.rep m.st i
  by_cases h0 : i = 0
  · subst h0
    have o4 := o3.one 4 m.st m.here 1
    change Ahead ((((((s.one 1 m.st m.here 1).one 2 m.st 0 1).rep m.st 0).one 4 m.st m.here 1)).len 1 m.here n).e F T at ha
    have a4 := ahead_len o4 (by omega) ha
    have a3 := ahead_one o3 a4
    have a2 := ahead_rep o2 a3
    obtain ⟨b1, f1⟩ := fol_one h (by omega) (ahead_one o1 a2) hf
    obtain ⟨b2, f2⟩ := fol_one o1 (by omega) a2 f1
    obtain ⟨b3, f3⟩ := fol_rep o2 (by omega) a3 f2
    obtain ⟨b4, f4⟩ := fol_one o3 (by omega) a4 f3
    obtain ⟨b5, f5⟩ := fol_len o4 (by omega) hq.2 ha f4
    have b2' : (d.s1 m).bit 2 m.st 0 = 1 := b2
    have b3' : (d.s2 m).repV m.st = 0 := b3
    have b4' : (d.s3 m).bit 4 m.st m.here = 1 := b4
    have b5' : ((d.s3 m).one 4 m.st m.here).lenV 1 m.here = n := b5
    have n1 : ¬ d.bit 1 m.st m.here = 0 := by omega
    have n2 : ¬ (d.s1 m).bit 2 m.st 0 = 0 := by omega
    have n4 : ¬ (d.s3 m).bit 4 m.st m.here = 0 := by omega
    rw [if_neg n1, if_neg n1, if_neg n2, if_neg n2, if_pos b3', if_pos b3', if_neg n4, if_neg n4, b5']
    exact ⟨rfl, f5⟩
  · have hc : s.code m (.rep i n) = (((s.one 1 m.st m.here 1).one 2 m.st 0 1).rep m.st i).len 1 m.here n := by
     show (if i = 0 then s.rp0 m n else s.rpi m i n) = _
     rw [if_neg h0]; rfl
    rw [hc] at ha ⊢
    have a3 := ahead_len o3 (by omega) ha
    have a2 := ahead_rep o2 a3
    obtain ⟨b1, f1⟩ := fol_one h (by omega) (ahead_one o1 a2) hf
    obtain ⟨b2, f2⟩ := fol_one o1 (by omega) a2 f1
    obtain ⟨b3, f3⟩ := fol_rep o2 hq.1 a3 f2
    obtain ⟨b5, f5⟩ := fol_len o3 (by omega) hq.2 ha f3
    have b2' : (d.s1 m).bit 2 m.st 0 = 1 := b2
    have b3' : (d.s2 m).repV m.st = i := b3
    have b5' : (d.s3 m).lenV 1 m.here = n := b5
    have n1 : ¬ d.bit 1 m.st m.here = 0 := by omega
    have n2 : ¬ (d.s1 m).bit 2 m.st 0 = 0 := by omega
    have n3 : ¬ (d.s2 m).repV m.st = 0 := by omega
    rw [if_neg n1, if_neg n1, if_neg n2, if_neg n2, if_neg n3, if_neg n3, b3', b5']
    exact ⟨rfl, f5⟩
end
end Go.Proofs.YtfpoabeihpfeiaaGreat.Mo
end
section
namespace Go.Proofs.YtfpoabeihpfeiaaGreat.Mo
open Go.RowKit
open Rc
open Pk (Rp Pt)
open Wnd (Win)
section
variable {w : World} {O : Paint} {c cm cw a tot k gb cap nb mo wb wm : Nat} {most : Int} {v : Value} {tb : Nat -> Nat -> Nat} {s : Es} {d : Ds} {m : Ms}
theorem code_enc (hm : ModAt w O cw mo wb v m.lc m.lp m.pb most wm m.l m.r m.st k) (hok : m.Ok nb) (hl : m.l.length <= 1099511627776) (h1 : cw ≠ c) (h2 : cw ≠ cm) (h : EncS w O c cm a k gb cap nb tb s) (ht : s.e.turns <= 600000) (q : Pk1) (hq : q.Ok) :
  Calls Tryz.prog 54 #[.pointer (some ⟨mo, 0, none⟩), .iface 114 (.agg #[.pointer (some ⟨a, 0, none⟩)]), q.pt.val] w (EncTo w O c cm a k gb cap nb tb (s.code m q) q.pt.val) := by
 cases q with
 | lit b => exact code_enc_lit hm hok hl h1 h2 h ht b hq
 | mat n v1 => exact code_enc_mat hm hok hl h1 h2 h ht n v1 _ hq.1 hq.2 rfl
 | sho => exact code_enc_sho hm hok hl h1 h2 h ht
 | rep i n =>
  by_cases hi : i = 0
  · subst hi
    exact code_enc_rp0 hm hok hl h1 h2 h ht n hq.2
  · have e : s.code m (.rep i n) = s.rpi m i n := by unfold Es.code; exact if_neg hi
    rw [e]
    exact code_enc_rpi hm hok hl h1 h2 h ht i n (by omega) hq.1 hq.2
theorem code_dec (hm : ModAt w O cw mo wb v m.lc m.lp m.pb most wm m.l m.r m.st k) (hok : m.Ok nb) (hl : m.l.length <= 1099511627776) (h1 : cw ≠ c) (h2 : cw ≠ cm) (h : DecS w O c cm a tot k gb cap nb tb d) :
  Calls Tryz.prog 54 #[.pointer (some ⟨mo, 0, none⟩), .iface 193 (.agg #[.pointer (some ⟨a, 0, none⟩)]), .agg #[.int .i64 0, .int .i64 0, .int .i64 0, .int .u8 0]] w (DecTo w O c cm a tot k gb cap nb tb (d.code m) (d.codeP m).pt.val) := by
 have l1 := d.bit_le 1 m.st m.here
 have l2 := (d.one 1 m.st m.here).bit_le 2 m.st 0
 have l3 := (((d.one 1 m.st m.here).one 2 m.st 0).rep m.st).bit_le 4 m.st m.here
 unfold Ds.code Ds.codeP Ds.s3 Ds.s2 Ds.s1
 by_cases b1 : d.bit 1 m.st m.here = 0
 · rw [if_pos b1, if_pos b1]
   exact code_dec_lit hm hok hl h1 h2 h b1
 · rw [if_neg b1, if_neg b1]
   by_cases b2 : (d.one 1 m.st m.here).bit 2 m.st 0 = 0
   · rw [if_pos b2, if_pos b2]
     exact code_dec_mat hm hok hl h1 h2 h (by omega) b2
   · rw [if_neg b2, if_neg b2]
     by_cases b3 : ((d.one 1 m.st m.here).one 2 m.st 0).repV m.st = 0
     · rw [if_pos b3, if_pos b3]
       by_cases b4 : (((d.one 1 m.st m.here).one 2 m.st 0).rep m.st).bit 4 m.st m.here = 0
       · rw [if_pos b4, if_pos b4]
         exact code_dec_sho hm hok hl h1 h2 h (by omega) (by omega) b3 b4
       · rw [if_neg b4, if_neg b4]
         exact code_dec_rp0 hm hok hl h1 h2 h (by omega) (by omega) b3 (by omega)
     · rw [if_neg b3, if_neg b3]
       exact code_dec_rpi hm hok hl h1 h2 h (by omega) (by omega) (by omega) (repV_lt _ _)
theorem byteV_lt (h : d.Ok) (lc lp st : Nat) (l : List UInt8) (r : Int) : d.byteV lc lp st l r < 256 := by
 unfold Ds.byteV
 split
 · exact (h.num 100 (ctx lc lp l) (l100 _)).2
 · exact Nat.mod_lt _ (by omega)
theorem codeP_b (h : d.Ok) (m : Ms) : (d.codeP m).pt.b < 256 := by
 unfold Ds.codeP Ds.s3 Ds.s2 Ds.s1
 (repeat' split) <;> first | exact byteV_lt (h.one _ _ _) _ _ _ _ _ | exact Nat.zero_lt_succ _
end
end Go.Proofs.YtfpoabeihpfeiaaGreat.Mo
end
