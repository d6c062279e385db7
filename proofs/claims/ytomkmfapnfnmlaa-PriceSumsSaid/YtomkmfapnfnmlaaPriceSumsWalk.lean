/-
  The walk of the statement PriceSums: for every table and list it returns true, and writes nothing that was there.
-/
import Derived.Test.YtomkmfapnfnmlaaPriceSpeaks
import Derived.Test.YtomkmfapnfnmlaaPackDo
import Derived.Deep.CutBlock
import Derived.Deep.DeepCutAuto
import Derived.Deep.AppendLies
set_option linter.unusedVariables false
namespace Go.Proofs.Ytomkmfapnfnmlaa.Pc
open Go.RowKit
open Pk (Pt IsPts IsPt ret_bool)
open Pl (PtsT flatP flatP_append)
theorem Tb.go_append (t : Tb) (p : Pt) : ∀ (l : List Pt) (a : Int), t.go a (l ++ [p]) = (t.go a l).bind (fun x => (t.pt p).map (fun c => x + c))
  | [], a => by
    show (match t.pt p with | none => none | some c => t.go (a + c) []) = _
    cases t.pt p <;> rfl
  | q :: l, a => by
    show (match t.pt q with | none => none | some c => t.go (a + c) (l ++ [p])) = (match t.pt q with | none => none | some c => t.go (a + c) l).bind _
    cases t.pt q with
    | none => rfl
    | some c => exact t.go_append p l (a + c)
theorem below_own {w0 w w' : World} {v : Value} (h : Below w0.heap.size w0 w) (hv : ∀ k, v.ownBlock = some k → w0.heap.size ≤ k) (o : Obj) (hg : (w.alloc o).grownBy w' v.ownBlock) : Below w0.heap.size w0 w' :=
  h.trans ((((Frame.refl (fun k => v.ownBlock = some k) w).alloc o).grown hg (fun k hk => .inl hk)).below h.size (fun k hk ho => by have := hv k ho; omega))
theorem moved_own {w0 w : World} {v v' : Value} (h : Below w0.heap.size w0 w) (hv : ∀ k, v.ownBlock = some k → w0.heap.size ≤ k) (o : Obj) (hm : Moved (w.alloc o) v v') : ∀ k, v'.ownBlock = some k → w0.heap.size ≤ k := by
  intro k hk
  rcases hm with e | e
  · rw [e] at hk; exact hv k hk
  · have h1 := e k hk
    rw [World.size_alloc] at h1
    have := h.size
    omega
theorem pt_new (w : World) (a b c d : Value) : ∀ j u, [a, b, c, d][j]? = some u → (w.alloc (.cells #[a, b, c, d] 37)).cell? ((⟨w.heap.size, 0, none⟩ : Addr).add j) = some u := World.news_of_block (heap_alloc_new _ _)
/-- The packets that were told so far. -/
structure Sofar (w0 : World) (l : List Pt) (v : Value) (w : World) : Prop where
  row : PtsT 37 w v l
  below : Below w0.heap.size w0 w
  own : ∀ k, v.ownBlock = some k → w0.heap.size ≤ k
theorem Sofar.nil (w : World) : Sofar w [] (.slice none 0 0) w := ⟨World.ownsRow_nil _ _ _ _, Below.refl _ _, by simp [Value.ownBlock]⟩
theorem Sofar.step {w0 w w' : World} {n g cap : Nat} {v : Value} {l : List Pt} {o : Obj} {p : Pt} (h : Sofar w0 l v w) (hn : l.length = n)
    (hown : w'.ownsRow 0 37 4 (.slice (some ⟨g, 0, none⟩) (n + 1) cap) (n + 1) (flatP l ++ [.int .i64 p.k, .int .i64 p.d, .int .i64 p.n, .int .u8 (p.b : Int)])) (hg : (w.alloc o).grownBy w' v.ownBlock) (hm : Moved (w.alloc o) v (.slice (some ⟨g, 0, none⟩) (n + 1) cap)) :
    Sofar w0 (l ++ [p]) (.slice (some ⟨g, 0, none⟩) (n + 1) cap) w' := by
  refine ⟨?_, below_own h.below h.own o hg, moved_own h.below h.own o hm⟩
  unfold PtsT
  rw [List.length_append, flatP_append, hn]
  exact hown
theorem Sofar.news {w0 w w' : World} {v : Value} {l : List Pt} (h : Sofar w0 l v w) (hb : Below w.heap.size w w') : Sofar w0 l v w' :=
  ⟨ownsRow_frame h.row (Frame.of_below_size (own := fun _ => False) hb) (fun k hk ho => ho), h.below.trans (hb.mono h.below.size), h.own⟩
/-- What the sum is behind some packets. -/
def SumOk (t : Tb) (l : List Pt) (ok : Bool) (acc : Int) : Prop := if ok = true then t.go 0 l = some acc ∧ 0 ≤ acc ∧ acc ≤ 650000 * (l.length : Int) else t.go 0 l = none
theorem sum_more {t : Tb} {l : List Pt} {ok : Bool} {acc c : Int} {p : Pt} (h : SumOk t l ok acc) (hc : t.pt p = some c) (hr : 1 ≤ c ∧ c ≤ 650000) (hl : l.length ≤ 40) : SumOk t (l ++ [p]) ok (IntKind.i64.wrap (acc + c)) := by
  unfold SumOk at h ⊢
  rw [t.go_append, hc]
  cases ok with
  | false =>
    rw [if_neg (by simp)] at h ⊢
    rw [h]; rfl
  | true =>
    rw [if_pos rfl] at h ⊢
    obtain ⟨h1, h2, h3⟩ := h
    have e : IntKind.i64.wrap (acc + c) = acc + c := by rw [IntKind.wrap_i64]; omega
    rw [h1, e]
    refine ⟨rfl, by omega, ?_⟩
    simp
    omega
theorem wrap_same (x : Int) : IntKind.i64.wrap x = wrap64 x := by rw [IntKind.wrap_i64]; unfold wrap64; omega
theorem sum_bad {t : Tb} {l : List Pt} {ok : Bool} {acc acc' : Int} {p : Pt} (h : SumOk t l ok acc) (hc : t.pt p = none) : SumOk t (l ++ [p]) false acc' := by
  unfold SumOk
  rw [t.go_append, hc, if_neg (by simp)]
  cases t.go 0 l <;> rfl
set_option maxRecDepth 100000 in
set_option maxHeartbeats 8000000 in
theorem sums_walk (t : Tb) (a : Option Addr) (len cap : Nat) (w : World) (ps : List Pt) (hpl : ps.length = min len 40) (hps : IsPts w a ps) (hd : ∀ q ∈ ps, q.b < 256 ∧ -9223372036854775808 ≤ q.d ∧ q.d ≤ 9223372036854775807) (hlen : len ≤ maxLen) :
    Calls Try.prog 5 #[.agg #[.int .i64 t.l, .int .i64 t.m, .int .i64 t.n, .int .i64 t.f, .int .i64 t.b], .slice a len cap] w fun x w' => x = .returned (.bool true) ∧ Below w.heap.size w w' := by
  unfold maxLen at hlen
  have hb1 : Below w.heap.size w (w.alloc (.cells #[.int .i64 t.l, .int .i64 t.m, .int .i64 t.n, .int .i64 t.f, .int .i64 t.b] 42)) := (Below.refl _ _).alloc (Nat.le_refl _) _
  have HX1 := Lib.hid (heap_alloc_new w (.cells #[.int .i64 t.l, .int .i64 t.m, .int .i64 t.n, .int .i64 t.f, .int .i64 t.b] 42))
  have HB1 := Lib.hid hb1
  have HPL := Lib.hid hpl
  have HPS := Lib.hid hps
  have HDD := Lib.hid hd
  obtain ⟨i0, hi, hz0, hz1, hz2⟩ := info_parts Pl.infoPk
  have HI := Lib.hid hi
  have HZ0 := Lib.hid hz0
  have HZ1 := Lib.hid hz1
  have HZ2 := Lib.hid hz2
  clear hb1 hps hd hi hz0 hz1 hz2 hpl
  go_enter Try.func5, Try.ntmps5
  go_upto_region 1 with (fail)
  generalize w.alloc (.cells #[.int .i64 t.l, .int .i64 t.m, .int .i64 t.n, .int .i64 t.f, .int .i64 t.b] 42) = W1 at *
  have HXS := Lib.hid HB1.out.size
  generalize hXe : w.heap.size = X at *
  have HXE := Lib.hid hXe
  clear hXe
  go_wp2_with fail
  refine (speaks15 _).mono ?_
  rintro x w2 ⟨rfl, hb2⟩
  have HX2 := Lib.hid ((hb2.block X (lt_of_heap HX1.out)).trans HX1.out)
  have HB2 := Lib.hid (HB1.out.trans (hb2.mono HXS.out))
  have HXS2 := Lib.hid (Nat.le_trans HXS.out hb2.size)
  clear hb2 HX1 HB1
  obtain ⟨x0, x1, x2, x3, x4⟩ := five HX2.out
  have hb3 : Below w2.heap.size w2 (w2.alloc (.cells #[.int .i64 t.l, .int .i64 t.m, .int .i64 t.n, .int .i64 t.f, .int .i64 t.b] 43)) := (Below.refl _ _).alloc (Nat.le_refl _) _
  have HX3 := Lib.hid ((hb3.block X (lt_of_heap HX2.out)).trans HX2.out)
  have HY3 := Lib.hid (heap_alloc_new w2 (.cells #[.int .i64 t.l, .int .i64 t.m, .int .i64 t.n, .int .i64 t.f, .int .i64 t.b] 43))
  have HB3 := Lib.hid (HB2.out.trans (hb3.mono HXS2.out))
  have HXS3 := Lib.hid (Nat.le_trans HXS2.out hb3.size)
  clear hb3 HX2 HB2
  go_upto_region 4 with (fail)
  generalize w2.alloc (.cells #[.int .i64 t.l, .int .i64 t.m, .int .i64 t.n, .int .i64 t.f, .int .i64 t.b] 43) = W3 at *
  generalize w2.heap.size = Y at *
  clear x0 x1 x2 x3 x4
  have HGA := Lib.hid (good_any t)
  have HG : Hid (t.good = true → t.good = true) := Lib.hid (fun h => h)
  obtain ⟨y0, y1, y2, y3, y4⟩ := five HY3.out
  go_wp2_with fail
  refine (HGA.out _).mono ?_
  rintro x w4 ⟨rfl, hb4⟩
  have HX4 := Lib.hid ((hb4.block X (lt_of_heap HX3.out)).trans HX3.out)
  have HY4 := Lib.hid ((hb4.block Y (lt_of_heap HY3.out)).trans HY3.out)
  have HB4 := Lib.hid (HB3.out.trans (hb4.mono HXS3.out))
  have HXS4 := Lib.hid (Nat.le_trans HXS3.out hb4.size)
  clear hb4 HX3 HY3 HB3 HGA y0 y1 y2 y3 y4
  generalize hgd : t.good = gd at *
  have HGD := Lib.hid hgd
  clear hgd
  cases gd with
  | false =>
    go_wp2_with fail
    go_ret
    exact ⟨rfl, by rw [HXE.out]; exact HB4.out⟩
  | true =>
    have HP4 := Lib.hid (HPS.out.below (by rw [HXE.out]; exact HB4.out))
    have HOF := Lib.hid (fun (W : World) (A : Option Addr) (c : Nat) (h : IsPts W A ps) => of_any t HGD.out h (by have := HPL.out; omega) (fun q hq => (HDD.out q hq).2) c)
    have HS0 : Hid (SumOk t (ps.take 0) true 0) := Lib.hid ⟨rfl, by omega, by simp⟩
    have HTF := Lib.hid (Sofar.nil w4)
    clear HPS
    go_wp2_with fail
    go_loopw [6, 7, 8, 9] (fun sv okv v i wr => ∃ (k : Nat) (acc : Int) (ok : Bool), k ≤ ps.length ∧ sv = .int .i64 acc ∧ okv = .bool ok ∧ i = .int .i64 k ∧ SumOk t (ps.take k) ok acc ∧ Sofar w4 (ps.take k) v wr) (fun _ _ _ i _ => 40 - (intOf i).toNat)
    case atStart => exact ⟨0, 0, true, by omega, rfl, rfl, rfl, HS0.out, HTF.out⟩
    case round =>
      clear HS0 HTF
      obtain ⟨k, acc, ok, hk, rfl, rfl, rfl, hsum, hso⟩ := hrel
      obtain ⟨wo, rfl⟩ : ∃ wo : World, wo = wr := ⟨_, rfl⟩
      have HSO := Lib.hid hso
      have HSUM := Lib.hid hsum
      clear hso hsum
      by_cases hlt : k < ps.length
      · as_aux_lemma =>
        -- BEGIN round
        have hk1 : (k : Int) < (len : Int) := by have := HPL.out; omega
        have hk2 : (k : Int) < 40 := by have := HPL.out; omega
        have hk0 : (0 : Int) ≤ (k : Int) := by omega
        have hkn : (k : Int).toNat = k := by omega
        have hpo := HP4.out.below HSO.out.below
        obtain ⟨g, off, rfl, hcell⟩ := hpo.resolve_left (fun e => by rw [e] at hlt; simp at hlt)
        obtain ⟨c0, c1, c2, c3, _⟩ := hcell k hlt
        have HCL : Hid (∀ W, Below w4.heap.size w4 W → IsPt W g (off + k * 4) (ps[k]'hlt)) := Lib.hid (fun W hb => by
          rcases HP4.out.below hb with e | ⟨g', off', he, hc⟩
          · rw [e] at hlt; simp at hlt
          · simp only [Option.some.injEq, Addr.mk.injEq, and_true] at he
            obtain ⟨rfl, rfl⟩ := he
            exact hc k hlt)
        have HTK := Lib.hid (List.take_succ_eq_append_getElem hlt)
        have HRG := Lib.hid (HDD.out _ (List.getElem_mem hlt))
        have HPR := Lib.hid (fun (c : Int) (hc : t.pt (ps[k]'hlt) = some c) => t.pt_range HGD.out (HRG.out).2.2 hc)
        have HMT := Lib.hid (fun W => rmatch_any t HGD.out (ps[k]'hlt).n (ps[k]'hlt).d (HRG.out).2.1 (HRG.out).2.2 W)
        have HCR := Lib.hid (t.cost_range HGD.out (ps[k]'hlt).n (HRG.out).2.2)
        clear hcell hpo HDD HP4 HOF
        generalize ps[k] = p at *
        have htl : (ps.take k).length = k := by simp; omega
        have HTL := Lib.hid htl
        have HRW : Hid (wo.ownsRow 0 37 4 u8 k (flatP (ps.take k))) := Lib.hid (by have := HSO.out.row; unfold PtsT at this; rw [htl] at this; exact this)
        have hm1 : k + 1 ≤ maxLen := by unfold maxLen; omega
        have hm2 : (k + 1) * 32 ≤ 140737488355328 := by omega
        clear htl
        go_upto_region 12 with (at_builtin; refine wpList_append_one _ rfl _ _ 28 rfl 37 i0 (.agg #[.int .i64 0, .int .i64 0, .int .i64 0, .int .u8 0]) 4 32 Try.underlying28 HI.out HZ0.out HZ1.out HZ2.out rfl (by decide) u8 k _ rfl (HRW.out.alloc _) ⟨wo.heap.size, 0, none⟩ 1 [.int .i64 p.k, .int .i64 p.d, .int .i64 p.n, .int .u8 (p.b : Int)] rfl rfl (pt_new _ _ _ _ _) (Pl.pt_one _ _ _ _) hm1 hm2 ?_; intro g9 cap9 w10 hown10 hgr10 hmv10; have HSN := Lib.hid (HSO.out.step HTL.out hown10 hgr10 hmv10); clear hown10 hgr10 hmv10)
        clear c0 c1 c2 c3
        obtain ⟨c0, c1, c2, c3, _⟩ := HCL.out w10 HSN.out.below
        have hxc := five ((HSN.out.below.block X (lt_of_heap HX4.out)).trans HX4.out)
        obtain ⟨x0, x1, x2, x3, x4⟩ := hxc
        have htl40 : (ps.take k).length ≤ 40 := by rw [HTL.out]; omega
        have HRM := Lib.hid (fun c (hc : t.pt p = some c) => sum_more HSUM.out hc (by have := HPR.out c hc; omega) htl40)
        have HRB := Lib.hid (fun acc' (hc : t.pt p = none) => sum_bad (acc' := acc') HSUM.out hc)
        have hvk : IntKind.i64.wrap ((k : Int) + 1) = (k : Int) + 1 := by rw [IntKind.wrap_i64]; omega
        clear HRW HPR HSUM htl40 hm1 hm2
        by_cases k1 : p.k = 1
        · have HNX := Lib.hid (HRM.out t.l (by unfold Tb.pt; rw [if_pos k1]))
          rw [← HTK.out] at HNX
          clear HRM HRB HCL HMT HCR HRG
          go_wp2_with fail
          go_roundw
          case rel => exact ⟨k + 1, _, ok, by omega, rfl, rfl, by go_num, by first | exact HNX.out | (rw [← wrap_same]; exact HNX.out), by rw [HTK.out]; exact HSN.out⟩
          case measure => simp [intOf]; omega
        · by_cases k2 : p.k = 2
          · have HNX := Lib.hid (HRM.out (t.cost p.n p.d) (by unfold Tb.pt; rw [if_neg k1, if_pos k2]))
            rw [← HTK.out] at HNX
            have HS : Hid (∀ W', Below w10.heap.size w10 W' → Below w10.heap.size w10 W' ∧ ((W'.cell? ⟨X, 0, none⟩ = some (.int .i64 t.l) ∧ W'.cell? ⟨X, 1, none⟩ = some (.int .i64 t.m) ∧ W'.cell? ⟨X, 2, none⟩ = some (.int .i64 t.n) ∧ W'.cell? ⟨X, 3, none⟩ = some (.int .i64 t.f) ∧ W'.cell? ⟨X, 4, none⟩ = some (.int .i64 t.b)) ∧ (W'.cell? ⟨g, off + k * 4, none⟩ = some (.int .i64 p.k) ∧ W'.cell? ⟨g, off + k * 4 + 1, none⟩ = some (.int .i64 p.d) ∧ W'.cell? ⟨g, off + k * 4 + 2, none⟩ = some (.int .i64 p.n)))) := Lib.hid (fun W' hW => by
              have hb := HSN.out.below.trans (hW.mono HSN.out.below.size)
              obtain ⟨d0, d1, d2, _⟩ := HCL.out W' hb
              exact ⟨hW, five ((hb.block X (lt_of_heap HX4.out)).trans HX4.out), d0, d1, d2⟩)
            generalize t.cost p.n p.d = co at *
            clear HRM HRB HCR HRG HCL
            go_upto_region 17 with (fail)
            go_region_held3 (fun W' => Below w10.heap.size w10 W' ∧ ((W'.cell? ⟨X, 0, none⟩ = some (.int .i64 t.l) ∧ W'.cell? ⟨X, 1, none⟩ = some (.int .i64 t.m) ∧ W'.cell? ⟨X, 2, none⟩ = some (.int .i64 t.n) ∧ W'.cell? ⟨X, 3, none⟩ = some (.int .i64 t.f) ∧ W'.cell? ⟨X, 4, none⟩ = some (.int .i64 t.b)) ∧ (W'.cell? ⟨g, off + k * 4, none⟩ = some (.int .i64 p.k) ∧ W'.cell? ⟨g, off + k * 4 + 1, none⟩ = some (.int .i64 p.d) ∧ W'.cell? ⟨g, off + k * 4 + 2, none⟩ = some (.int .i64 p.n)))) ((refine HS.out _ ?_; repeat (first | assumption | exact Below.refl _ _ | refine Pk.bel_drew ?_ | refine Pk.bel_alloc _ ?_ | (refine Pk.bel_new (by assumption) ?_)))) (first | (go_at_call 19; (with_reducible refine (HMT.out _).mono ?_); rintro z w6 ⟨rfl, hb6⟩))
            have HSN2 := Lib.hid (HSN.out.news (Pk.bel_new hb6 (Pk.bel_drew (Below.refl w10.heap.size w10))))
            clear hb6 HS HMT
            go_wp2_with fail
            go_roundw
            case rel => exact ⟨k + 1, _, ok, by omega, rfl, rfl, by go_num, by first | exact HNX.out | (rw [← wrap_same]; exact HNX.out), by rw [HTK.out]; exact HSN2.out⟩
            case measure => simp [intOf]; omega
          · have HNX := Lib.hid (HRB.out acc (by unfold Tb.pt; rw [if_neg k1, if_neg k2]))
            rw [← HTK.out] at HNX
            clear HRM HRB HCL HMT HCR HRG
            go_wp2_with fail
            go_roundw
            case rel => exact ⟨k + 1, _, false, by omega, rfl, rfl, by go_num, by first | exact HNX.out | (rw [← wrap_same]; exact HNX.out), by rw [HTK.out]; exact HSN.out⟩
            case measure => simp [intOf]; omega
        -- END round
      · as_aux_lemma =>
        -- BEGIN stop
        obtain rfl : k = ps.length := by omega
        have HBE : Hid (Below X w wo) := Lib.hid (HB4.out.trans (HSO.out.below.mono HXS4.out))
        rw [List.take_length] at HSO HSUM
        obtain ⟨A, c, rfl, hI⟩ := HSO.out.row.slice (fun q hq => (HDD.out q hq).1)
        have HOC := Lib.hid (HOF.out wo A c hI)
        have hY := five ((HSO.out.below.block Y (lt_of_heap HY4.out)).trans HY4.out)
        obtain ⟨y0, y1, y2, y3, y4⟩ := hY
        have HSZ := Lib.hid (Nat.le_trans HXS4.out HSO.out.below.size)
        clear HOF HP4 HDD hI HSO
        have key : (ps.length < len ∧ ps.length = 40) ∨ ps.length = len := by have := HPL.out; omega
        clear HPL
        generalize ps.length = K at *
        generalize hgo : t.go 0 ps = gv at *
        have HGV := Lib.hid hgo
        clear hgo
        cases ok with
        | true =>
          have hsv := HSUM.out
          unfold SumOk at hsv
          rw [if_pos rfl, HGV.out] at hsv
          obtain ⟨rfl, hs1, hs2⟩ := hsv
          have HOC2 : Hid (Calls Try.prog 20 #[.agg #[.int .i64 t.l, .int .i64 t.m, .int .i64 t.n, .int .i64 t.f, .int .i64 t.b], .slice A K c] wo fun x w' => x = .returned (.tuple #[.int .i64 acc, .bool true]) ∧ Below wo.heap.size wo w') := HOC
          clear HSUM HOC HGV
          rcases key with ⟨k1, rfl⟩ | rfl
          · have k3 : (40 : Int) < (len : Int) := by omega
            go_wp2_with fail
            refine HOC2.out.mono ?_
            rintro z w5 ⟨rfl, hb5⟩
            have HBF := Lib.hid (HBE.out.trans (hb5.mono HSZ.out))
            clear hb5 HOC2 HBE
            go_wp2_with fail
            go_ret
            exact ⟨rfl, by rw [HXE.out]; exact HBF.out⟩
          · go_wp2_with fail
            refine HOC2.out.mono ?_
            rintro z w5 ⟨rfl, hb5⟩
            have HBF := Lib.hid (HBE.out.trans (hb5.mono HSZ.out))
            clear hb5 HOC2 HBE
            go_wp2_with fail
            go_ret
            exact ⟨rfl, by rw [HXE.out]; exact HBF.out⟩
        | false =>
          have hsv := HSUM.out
          unfold SumOk at hsv
          rw [if_neg (by simp), HGV.out] at hsv
          subst hsv
          have HOC2 : Hid (Calls Try.prog 20 #[.agg #[.int .i64 t.l, .int .i64 t.m, .int .i64 t.n, .int .i64 t.f, .int .i64 t.b], .slice A K c] wo fun x w' => x = .returned (.tuple #[.int .i64 0, .bool false]) ∧ Below wo.heap.size wo w') := HOC
          clear HSUM HOC HGV
          rcases key with ⟨k1, rfl⟩ | rfl
          · have k3 : (40 : Int) < (len : Int) := by omega
            go_wp2_with fail
            refine HOC2.out.mono ?_
            rintro z w5 ⟨rfl, hb5⟩
            have HBF := Lib.hid (HBE.out.trans (hb5.mono HSZ.out))
            clear hb5 HOC2 HBE
            go_wp2_with fail
            go_ret
            exact ⟨rfl, by rw [HXE.out]; exact HBF.out⟩
          · go_wp2_with fail
            refine HOC2.out.mono ?_
            rintro z w5 ⟨rfl, hb5⟩
            have HBF := Lib.hid (HBE.out.trans (hb5.mono HSZ.out))
            clear hb5 HOC2 HBE
            go_wp2_with fail
            go_ret
            exact ⟨rfl, by rw [HXE.out]; exact HBF.out⟩
        -- END stop
end Go.Proofs.Ytomkmfapnfnmlaa.Pc
