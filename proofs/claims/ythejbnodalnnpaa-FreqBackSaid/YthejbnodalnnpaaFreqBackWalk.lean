/-
  The walk of the statement FreqBack: for every list it returns true, and writes nothing that was there.
-/
import Derived.Test.YthejbnodalnnpaaFreqBackMath
import Derived.Test.YthejbnodalnnpaaFreqSpeaks
import Derived.Deep.QuietTactic
import Derived.BigQuiet
import Derived.Deep.CutBlock
import Derived.Deep.DeepCutAuto
namespace Go.Proofs.Ythejbnodalnnpaa
open Go.RowKit
/-- One value more in a row. -/
theorem Held.more {w w' : World} {O : Paint} {c g n cap : Nat} {e : TypeId} {v u : Value} {xs : List Value} {o : Obj} (h : Held w O c e v xs) (hn : xs.length = n) (hr : w'.ownsRow 0 e 1 (.slice (some ⟨g, 0, none⟩) (n + 1) cap) (n + 1) (xs ++ [u])) (hg : (w.alloc o).grownBy w' v.ownBlock) (hm : Moved (w.alloc o) v (.slice (some ⟨g, 0, none⟩) (n + 1) cap)) :
    Step [c] w O w' (Step.paint O w c) ∧ Held w' (Step.paint O w c) c e (.slice (some ⟨g, 0, none⟩) (n + 1) cap) (xs ++ [u]) := by
  have s1 : Step [c] w O w' (Step.paint O w c) := ((((Step.refl [c] w O).alloc o).grown hg (fun k hk => by
    left; simp; exact h.paint k hk))).repaint c
  refine ⟨s1, ⟨by simpa [hn] using hr, fun k hk => ?_⟩⟩
  rcases hm with e1 | e1
  · rw [e1] at hk
    rw [Step.paint_old (h.lt hk)]; exact h.paint k hk
  · have := e1 k hk
    rw [World.size_alloc] at this
    exact Step.paint_new (by omega)
/-- What a row is, with values or without. -/
theorem Held.slice {w : World} {O : Paint} {c : Nat} {e : TypeId} {v : Value} {xs : List Value} (h : Held w O c e v xs) : ∃ A p, v = .slice A xs.length p := by
  rcases h.row.2 with ⟨e1, e2⟩ | ⟨g, p, cur, e1, _⟩
  · exact ⟨none, 0, by rw [e1, e2]⟩
  · exact ⟨_, p, e1⟩
end Go.Proofs.Ythejbnodalnnpaa
namespace Go.Proofs.Ythejbnodalnnpaa.Fq
open Go.RowKit
open Rc (Enc Dec EncAt DecAt Follows Ahead)
theorem infoB : (Try.prog.info? 4).map (fun i => (i.zero, i.size, i.bytes)) = some (some (.bool false), 1, 1) := by kernel_rfl
/-- The asks that came in, as a function. -/
theorem asks_fun {w : World} {a : Option Addr} {len : Nat} (h : IsAsks w a len) : ∃ f : Nat → Asked, (∀ i, i < len → (f i).sign < 256) ∧
    (len = 0 ∨ ∃ b off, a = some ⟨b, off, none⟩ ∧ b < w.heap.size ∧ ∀ i, i < len → IsAsk w b (off + i * 3) (f i)) := by
  rcases h.2 with h0 | ⟨b, off, ha, hb, hc⟩
  · exact ⟨fun _ => ⟨0, ByteArray.empty, false⟩, fun i hi => by omega, .inl h0⟩
  · have key : ∀ i, ∃ p : Asked, i < len → IsAsk w b (off + i * 3) p := by
      intro i
      by_cases hi : i < len
      · obtain ⟨x, hx⟩ := hc i hi
        exact ⟨x, fun _ => hx⟩
      · exact ⟨⟨0, ByteArray.empty, false⟩, fun h => absurd h hi⟩
    obtain ⟨f, hf⟩ := Classical.axiomOfChoice key
    exact ⟨f, fun i hi => (hf i hi).2.2.2.1, .inr ⟨b, off, ha, hb, hf⟩⟩
/-- Two tables. -/
structure Two2 (w0 : World) (t u : Nat) (lt lu : List (Nat × Nat)) (vt vu : Value) (w : World) (O : Paint) : Prop where
  run : Run w0 w O
  tabT : TabAt w O 1 t vt lt
  tabU : TabAt w O 2 u vu lu
def flags (l : List Bool) : List Value := l.map fun b => Value.bool b
structure LockQ (w0 : World) (t u E : Nat) (e : Enc) (lt lu : List (Nat × Nat)) (fl : List Bool) (vt vu vw : Value) (w : World) (O : Paint) : Prop where
  two : Two2 w0 t u lt lu vt vu w O
  enc : EncAt w O 3 E e
  was : Held w O 4 4 vw (flags fl)
structure LockU (w0 : World) (t u D : Nat) (d : Dec) (tot : Nat) (lt lu : List (Nat × Nat)) (fl : List Bool) (vt vu vw : Value) (w : World) (O : Paint) : Prop where
  two : Two2 w0 t u lt lu vt vu w O
  dec : DecAt w O 8 D d tot
  was : Held w O 4 4 vw (flags fl)
section
variable {w0 w w' : World} {t u E D tot : Nat} {e e' : Enc} {d d' : Dec} {lt lu l' : List (Nat × Nat)} {fl : List Bool} {vt vu vw : Value} {O O' : Paint}
theorem Two2.other {cs : List Nat} (h : Two2 w0 t u lt lu vt vu w O) (hs : Step cs w O w' O') (h0 : 0 ∉ cs) (h1 : 1 ∉ cs) (h2 : 2 ∉ cs) : Two2 w0 t u lt lu vt vu w' O' := ⟨h.run.step hs h0, h.tabT.step hs h1, h.tabU.step hs h2⟩
theorem Two2.addT (h : Two2 w0 t u lt lu vt vu w O) (ha : Added w O 1 t l' w') : ∃ O' vt', Step [1] w O w' O' ∧ Two2 w0 t u l' lu vt' vu w' O' := by
  obtain ⟨O', vt', hs, ht⟩ := ha
  exact ⟨O', vt', hs, h.run.step hs (by simp), ht, h.tabU.step hs (by simp)⟩
theorem Two2.addU (h : Two2 w0 t u lt lu vt vu w O) (ha : Added w O 2 u l' w') : ∃ O' vu', Step [2] w O w' O' ∧ Two2 w0 t u lt l' vt vu' w' O' := by
  obtain ⟨O', vu', hs, ht⟩ := ha
  exact ⟨O', vu', hs, h.run.step hs (by simp), h.tabT.step hs (by simp), ht⟩
theorem LockQ.other {cs : List Nat} (h : LockQ w0 t u E e lt lu fl vt vu vw w O) (hs : Step cs w O w' O') (h0 : 0 ∉ cs) (h1 : 1 ∉ cs) (h2 : 2 ∉ cs) (h3 : 3 ∉ cs) (h4 : 4 ∉ cs) : LockQ w0 t u E e lt lu fl vt vu vw w' O' := ⟨h.two.other hs h0 h1 h2, h.enc.step hs h3, h.was.step hs h4⟩
theorem LockQ.idle (h : LockQ w0 t u E e lt lu fl vt vu vw w O) (hs : Step [] w O w' O') : LockQ w0 t u E e lt lu fl vt vu vw w' O' := h.other hs (by simp) (by simp) (by simp) (by simp) (by simp)
theorem LockQ.add (h : LockQ w0 t u E e lt lu fl vt vu vw w O) (ha : Added w O 1 t l' w') : ∃ O' vt', Step [1] w O w' O' ∧ LockQ w0 t u E e l' lu fl vt' vu vw w' O' := by
  obtain ⟨O', vt', hs, h2⟩ := h.two.addT ha
  exact ⟨O', vt', hs, h2, h.enc.step hs (by simp), h.was.step hs (by simp)⟩
theorem LockQ.put (h : LockQ w0 t u E e lt lu fl vt vu vw w O) (hs : Step [3] w O w' O') (he : EncAt w' O' 3 E e') : LockQ w0 t u E e' lt lu fl vt vu vw w' O' := ⟨h.two.other hs (by simp) (by simp) (by simp), he, h.was.step hs (by simp)⟩
theorem LockU.other {cs : List Nat} (h : LockU w0 t u D d tot lt lu fl vt vu vw w O) (hs : Step cs w O w' O') (h0 : 0 ∉ cs) (h1 : 1 ∉ cs) (h2 : 2 ∉ cs) (h8 : 8 ∉ cs) (h4 : 4 ∉ cs) : LockU w0 t u D d tot lt lu fl vt vu vw w' O' := ⟨h.two.other hs h0 h1 h2, h.dec.step hs h8, h.was.step hs h4⟩
theorem LockU.idle (h : LockU w0 t u D d tot lt lu fl vt vu vw w O) (hs : Step [] w O w' O') : LockU w0 t u D d tot lt lu fl vt vu vw w' O' := h.other hs (by simp) (by simp) (by simp) (by simp) (by simp)
theorem LockU.add (h : LockU w0 t u D d tot lt lu fl vt vu vw w O) (ha : Added w O 2 u l' w') : ∃ O' vu', Step [2] w O w' O' ∧ LockU w0 t u D d tot lt l' fl vt vu' vw w' O' := by
  obtain ⟨O', vu', hs, h2⟩ := h.two.addU ha
  exact ⟨O', vu', hs, h2, h.dec.step hs (by simp), h.was.step hs (by simp)⟩
theorem LockU.got {tot' : Nat} (h : LockU w0 t u D d tot lt lu fl vt vu vw w O) (hs : Step [8] w O w' O') (he : DecAt w' O' 8 D d' tot') : LockU w0 t u D d' tot' lt lu fl vt vu vw w' O' := ⟨h.two.other hs (by simp) (by simp) (by simp), he, h.was.step hs (by simp)⟩
end
def okN (f : Nat → Asked) (L : List (Nat × Nat)) (k : Nat) : List Bool := (List.range k).map fun i => okE (runE f L i).2 (f i)
theorem okN_succ (f : Nat → Asked) (L : List (Nat × Nat)) (k : Nat) : okN f L (k + 1) = okN f L k ++ [okE (runE f L k).2 (f k)] := by simp [okN, List.range_succ]
theorem okN_len (f : Nat → Asked) (L : List (Nat × Nat)) (k : Nat) : (okN f L k).length = k := by simp [okN]
theorem okN_at (f : Nat → Asked) (L : List (Nat × Nat)) (n k : Nat) (h : k < n) : (flags (okN f L n))[k]? = some (.bool (okE (runE f L k).2 (f k))) := by simp [okN, flags, h]
/-- What the first loop holds. -/
def Filling (w0 : World) (t u : Nat) (l : List (Nat × Nat)) (w : World) : Prop := ∃ vt vu O, Two2 w0 t u l l vt vu w O
/-- What the second loop holds. -/
def Saving (w0 : World) (t u E : Nat) (f : Nat → Asked) (L : List (Nat × Nat)) (k : Nat) (v : Value) (w : World) : Prop := ∃ vt vu O, LockQ w0 t u E (runE f L k).1 (runE f L k).2 L (okN f L k) vt vu v w O
set_option maxRecDepth 100000 in
set_option maxHeartbeats 16000000 in
theorem fback_walk (t : ByteArray) (a0 : Option Addr) (len cap : Nat) (w : World) (hs : t.size ≤ maxLen) (hl : IsAsks w a0 len) :
    Calls Try.prog 4 #[.string t, .slice a0 len cap] w fun x w' => x = .returned (.bool true) ∧ Below w.heap.size w w' := by
  have HRUN := Lib.hid (Run.start w)
  have hlen := hl.1
  obtain ⟨f, hfs⟩ := asks_fun hl
  have HIS := Lib.hid hfs
  unfold maxLen at hs hlen
  obtain ⟨NN, hNN⟩ : ∃ NN : Nat, NN = min len 60 := ⟨_, rfl⟩
  have HNN := Lib.hid hNN
  have hN60 : NN ≤ 60 := by omega
  have hNlen : NN ≤ len := by omega
  clear hl hfs hNN
  go_enter Try.func4, Try.ntmps4
  go_wp2_with fail
  refine (speaks5 w).mono ?_
  rintro x w1 ⟨rfl, hb1⟩
  have HR1 := Lib.hid (HRUN.out.step (Step.of_below_same hb1 (fun _ => 0)) (by simp))
  clear hb1 HRUN
  go_wp2_with fail
  refine (new_tab w1 (fun _ => 0) 1).mono ?_
  rintro x w2 ⟨tt, rfl, O2, hs2, ht2⟩
  have HR2 := Lib.hid (HR1.out.step hs2 (by simp))
  have HT2 := Lib.hid ht2
  clear hs2 ht2 HR1
  go_wp2_with fail
  refine (new_tab w2 O2 2).mono ?_
  rintro x w3 ⟨tu, rfl, O3, hs3, ht3⟩
  have HL0 : Hid (Filling w tt tu (tab t 0) w3) := Lib.hid ⟨_, _, O3, HR2.out.step hs3 (by simp), HT2.out.step hs3 (by simp), ht3⟩
  clear hs3 ht3 HR2 HT2
  go_upto_block 0 with (fail)
  go_cut [7] (fun _ wc => ∃ l, Filling w tt tu l wc ∧ Tab 120 l ∧ l.length ≤ 300)
  case first =>
    as_aux_lemma =>
    go_wp2_with fail
    go_loopw [7] (fun i wr => ∃ j : Nat, j ≤ t.size ∧ j ≤ 300 ∧ i = .int .i64 j ∧ Filling w tt tu (tab t j) wr) (fun i _ => 300 - (intOf i).toNat)
    case atStart => exact ⟨0, by omega, by omega, rfl, HL0.out⟩
    case round =>
      clear HL0
      obtain ⟨j, hj, hj3, rfl, vt, vu, O, hL⟩ := hrel
      have hok := tab_ok t j
      have hle := tab_len t j
      by_cases hlt : j < t.size ∧ j < 300
      · obtain ⟨hl1, hl2⟩ := hlt
        have HNX := Lib.hid (tab_next t j hl1)
        have hx := UInt8.toNat_lt t[j]
        have HL := Lib.hid hL
        have HOK := Lib.hid hok
        have HLE : (tab t j).length ≤ 1000000 := by omega
        clear hL hok hle
        generalize tab t j = l at *
        go_wp2_with fail
        refine (add_any HL.out.tabT HOK.out HLE t[j].toNat (by omega)).mono ?_
        rintro x w4 ⟨rfl, ha⟩
        obtain ⟨O4, vt4, _, hL4⟩ := HL.out.addT ha
        have HL4 := Lib.hid hL4
        clear ha hL4 HL
        go_wp2_with fail
        refine (add_any HL4.out.tabU HOK.out HLE t[j].toNat (by omega)).mono ?_
        rintro x w5 ⟨rfl, ha⟩
        obtain ⟨O5, vu5, _, hL5⟩ := HL4.out.addU ha
        have HL5 := Lib.hid hL5
        clear ha hL5 HL4
        go_wp2_with fail
        go_roundw
        case rel => exact ⟨j + 1, by omega, by omega, by go_num, by rw [HNX.out]; exact ⟨_, _, _, HL5.out⟩⟩
        case measure => simp [intOf]; omega
      · generalize tab t j = l at *
        have HL := Lib.hid hL
        have HOK := Lib.hid hok
        have hle3 : l.length ≤ 300 := by omega
        clear hL hok hle
        have key : (j < t.size ∧ ¬ j < 300) ∨ ¬ j < t.size := by omega
        clear hlt
        rcases key with ⟨h1, h2⟩ | h1
        · go_wp2_with fail
          go_meet
          exact ⟨l, ⟨_, _, _, HL.out⟩, HOK.out, hle3⟩
        · go_wp2_with fail
          go_meet
          exact ⟨l, ⟨_, _, _, HL.out⟩, HOK.out, hle3⟩
  case rest =>
    obtain ⟨L, ⟨vt, vu, O, hL⟩, hok, hle⟩ := hcut
    have HL := Lib.hid hL
    have HOK := Lib.hid hok
    have HRK := Lib.hid (fun k hk h => runE_ok f L hok hle k hk h)
    have HAH := Lib.hid (fun h => ahead_runE f L hok hle NN hN60 h)
    clear hL hok HL0
    go_wp2_with fail
    refine (Rc.new_enc _ O 3).mono ?_
    rintro x w4 ⟨E, rfl, _, O4, hs4, he4⟩
    have HP0 : Hid (Saving w tt tu E f L 0 (.slice none 0 0) w4) := Lib.hid ⟨vt, vu, O4, ⟨HL.out.other hs4 (by simp) (by simp) (by simp), he4, ⟨World.ownsRow_nil _ _ _ _, fun k hk => by simp [Value.ownBlock] at hk⟩⟩⟩
    clear hs4 he4 HL
    clear vt vu
    go_upto_block 2 with (fail)
    go_cut [9] (fun c9 wc => Saving w tt tu E f L NN c9 wc)
    case first =>
      as_aux_lemma =>
      -- BEGIN save
      go_wp2_with fail
      go_loopw [9, 10] (fun v i wr => ∃ k : Nat, k ≤ NN ∧ i = .int .i64 k ∧ Saving w tt tu E f L k v wr) (fun _ i _ => NN - (intOf i).toNat)
      case atStart => exact ⟨0, by omega, rfl, HP0.out⟩
      case round =>
        clear HP0
        obtain ⟨k, hk, rfl, vt, vu, O, hL⟩ := hrel
        obtain ⟨hfi, htab, hll, htu⟩ := HRK.out k (by omega) (fun i hi => HIS.out.1 i (by omega))
        have HNX := Lib.hid (show runE f L (k + 1) = stepE (runE f L k).1 (runE f L k).2 (f k) from rfl)
        have HFL := Lib.hid (okN_succ f L k)
        have HFN := Lib.hid (okN_len f L k)
        generalize hre : runE f L k = re at *
        have HRE := Lib.hid hre
        obtain ⟨e, l⟩ := re
        simp only at hfi htab hll htu HNX hL
        have HTAB := Lib.hid htab
        have HFI := Lib.hid hfi
        clear hre hfi htab
        by_cases hlt : k < NN
        · have h60 : k < 60 := by omega
          have hkl : k < len := by omega
          rcases HIS.out.2 with h0 | ⟨b0, off, rfl, hb0, hc⟩
          · omega
          · obtain ⟨hc0, hc1, hc2, hs1, hq⟩ := hc k hkl
            have HX := Lib.hid (show (⟨(f k).sign, (f k).text, (f k).any⟩ : Asked) = f k from rfl)
            have HOE := Lib.hid (show (∀ l, okE l (f k) = if (f k).any then true else (partR (inN ((f k).text.data.toList.take 200)) (f k).sign l).2.2) from fun l => rfl)
            have HSE := Lib.hid (show (∀ e l, stepE e l (f k) = if (f k).any then (if (inN ((f k).text.data.toList.take 200)) (f k).sign then (e, l) else (e.part (free (inN ((f k).text.data.toList.take 200)) (f k).sign) 1 (free (inN ((f k).text.data.toList.take 200)) 256), l)) else ((putE e l (inN ((f k).text.data.toList.take 200)) (f k).sign).1, addT l (f k).sign)) from fun e l => rfl)
            have hbl := hL.two.run.below
            have c0 := (hbl.cell (p := ⟨b0, off + k * 3, none⟩) hb0).trans hc0
            have c1 := (hbl.cell (p := ⟨b0, off + k * 3 + 1, none⟩) hb0).trans hc1
            have c2 := (hbl.cell (p := ⟨b0, off + k * 3 + 2, none⟩) hb0).trans hc2
            have HL := Lib.hid hL
            clear hL hbl hc hc0 hc1 hc2 HX
            generalize (f k).sign = s at *
            generalize (f k).text = q at *
            generalize (f k).any = any at *
            generalize hoe : okE l (f k) = ok at *
            have HOK2 := Lib.hid hoe
            generalize hse : stepE e l (f k) = se at *
            have HSE2 := Lib.hid hse
            clear hoe hse
            go_upto_region 15 with (fail)
            have hs7 := Step.alloc_paint wr O 7 (.cells #[.int .u8 (s : Int), .string q, .bool any] 39)
            have HL7 := Lib.hid (HL.out.idle hs7)
            have HV7 := Lib.hid (Blk.new wr O 7 (.cells #[.int .u8 (s : Int), .string q, .bool any] 39))
            clear hs7 HL c0 c1 c2
            generalize wr.alloc (.cells #[.int .u8 (s : Int), .string q, .bool any] 39) = W7 at *
            generalize wr.heap.size = X at *
            generalize Step.paint O wr 7 = O7 at *
            have x1 : W7.cell? ⟨X, 1, none⟩ = some (.string q) := HV7.out.cell 1
            go_wp2_with fail
            refine (sets_any q hq W7 O7 5).mono ?_
            rintro x w8 ⟨b, rfl, O8, hs8, hset8⟩
            have HL8 := Lib.hid (HL7.out.idle hs8)
            have HV8 := Lib.hid (HV7.out.step hs8 (by simp))
            have HS8 := Lib.hid hset8
            clear hs8 hset8 HL7 HV7 x1
            generalize inN (q.data.toList.take 200) = N at *
            go_upto_block 4 with (refine wpList_store_row rfl 41 (.tmp 13) (.tmp 66) rfl w8.heap.size (setA N) (by rfl) (by rfl) 41 Try.zeroCells41 (heap_alloc_new _ _) (by rw [sizeA, setA_size]) (by rw [zeroA, setA_size, setA_size]) (setA_all N) ?_; rw [World.setRow_alloc_new])
            have hs9 := Step.alloc_paint w8 O8 6 (.cells (setA N) 41)
            have HL9 := Lib.hid (HL8.out.idle hs9)
            have HR9 := Lib.hid (show RoundP b w8.heap.size X N s q any (w8.alloc (.cells (setA N) 41)) (Step.paint O8 w8 6) from ⟨HS8.out.step hs9 (by simp), Blk.new w8 O8 6 _, HV8.out.step hs9 (by simp)⟩)
            clear hs9 HL8 HS8 HV8
            generalize w8.alloc (.cells (setA N) 41) = W9 at *
            generalize w8.heap.size = m at *
            generalize Step.paint O8 w8 6 = O9 at *
            have v0 : W9.cell? ⟨X, 0, none⟩ = some (.int .u8 (s : Int)) := HR9.out.var.cell 0
            have v2 : W9.cell? ⟨X, 2, none⟩ = some (.bool any) := HR9.out.var.cell 2
            go_cut [14] (fun c14 wc => ∃ vt' O', c14 = .bool ok ∧ LockQ w tt tu E se.1 se.2 L (okN f L k) vt' vu u9 wc O')
            case first =>
              cases any with
              | true =>
                have HHAS := Lib.hid (setHas HR9.out.set.not s hs1)
                have HO2 : Hid (ok = true) := Lib.hid (by rw [← HOK2.out, HOE.out, if_pos rfl])
                cases hN : N s with
                | true =>
                  as_aux_lemma =>
                  have HS2 : Hid (se = (e, l)) := Lib.hid (by rw [← HSE2.out, HSE.out, if_pos rfl, if_pos hN])
                  rw [hN] at HHAS
                  clear hN
                  go_wp2_with fail
                  refine HHAS.out.mono ?_
                  rintro x w10 ⟨rfl, rfl⟩
                  go_wp2_with fail
                  go_meet
                  exact ⟨_, _, by rw [HO2.out], by rw [HS2.out]; exact HL9.out⟩
                | false =>
                  as_aux_lemma =>
                  have HS2 : Hid (se = (e.part (free N s) 1 (free N 256), l)) := Lib.hid (by rw [← HSE2.out, HSE.out, if_pos rfl, if_neg (by rw [hN]; simp)])
                  rw [hN] at HHAS
                  have HN := Lib.hid hN
                  clear hN
                  go_wp2_with fail
                  refine HHAS.out.mono ?_
                  rintro x w10 ⟨rfl, rfl⟩
                  go_wp2_with fail
                  refine (put_other HR9.out.set HL9.out.enc (by omega) s hs1 HN.out).mono ?_
                  rintro x w11 ⟨rfl, O11, hs11, he11⟩
                  have HL11 := Lib.hid (HL9.out.put hs11 he11)
                  clear hs11 he11
                  go_wp2_with fail
                  go_meet
                  exact ⟨_, _, by rw [HO2.out], by rw [HS2.out]; exact HL11.out⟩
              | false =>
                as_aux_lemma =>
                have HAL := Lib.hid (all_le N HTAB.out (show l.length ≤ 541 by omega))
                have HS2 : Hid (se = ((putE e l N s).1, addT l s)) := Lib.hid (by rw [← HSE2.out, HSE.out, if_neg (by simp)])
                have HO2 : Hid (ok = (putE e l N s).2) := Lib.hid (by rw [← HOK2.out, HOE.out, if_neg (by simp), putE_eq])
                generalize hpu : putE e l N s = pe at *
                have HPU := Lib.hid hpu
                clear hpu
                go_wp2_with fail
                refine (put_any HL9.out.two.tabT HTAB.out (by omega) HR9.out.set.not HAL.out HL9.out.enc (by omega) s hs1).mono ?_
                rw [HPU.out]
                rintro x w13 ⟨rfl, O13, hs13, he13⟩
                have HL13 := Lib.hid (HL9.out.put hs13 he13)
                have HR13 := Lib.hid (HR9.out.step hs13 (by simp) (by simp) (by simp))
                clear hs13 he13 HL9 HR9 v0 v2
                have v0 : w13.cell? ⟨X, 0, none⟩ = some (.int .u8 (s : Int)) := HR13.out.var.cell 0
                go_wp2_with fail
                refine (add_any HL13.out.two.tabT HTAB.out (by omega) s hs1).mono ?_
                rintro x w14 ⟨rfl, ha⟩
                obtain ⟨O14, vt14, hs14, hL14⟩ := HL13.out.add ha
                have HL14 := Lib.hid hL14
                clear hs14 hL14 ha HL13 HR13 v0
                go_wp2_with fail
                go_meet
                exact ⟨_, _, by rw [HO2.out], by rw [HS2.out]; exact HL14.out⟩
            case rest =>
              obtain ⟨vt', O', rfl, hL'⟩ := hcut
              have HL' := Lib.hid hL'
              have hlf : (flags (okN f L k)).length = k := by unfold flags; rw [List.length_map, HFN.out]
              have HLF := Lib.hid hlf
              have hrow := hL'.was.row
              rw [hlf] at hrow
              have HROW := Lib.hid hrow
              obtain ⟨i0, hi, hz0, hz1, hz2⟩ := info_parts infoB
              have hm1 : k + 1 ≤ maxLen := by unfold maxLen; omega
              have hm2 : (k + 1) * 1 ≤ 140737488355328 := by omega
              clear hL' hlf hrow v0 v2
              go_wp2_with (at_builtin; refine wpList_append_one _ rfl _ _ 54 rfl 4 i0 (.bool false) 1 1 Try.underlying54 hi hz0 hz1 hz2 rfl (by decide) u9 k _ rfl (HROW.out.alloc _) ⟨wc.heap.size, 0, none⟩ 1 [.bool ok] rfl rfl (new_cell (heap_alloc_new _ _)) (by intro u hu; simp at hu; subst hu; rfl) hm1 hm2 ?_; intro g9 cap9 w10 hown10 hgr10 hmv10; obtain ⟨t1, t2⟩ := HL'.out.was.more HLF.out hown10 hgr10 hmv10; have HT1 := Lib.hid t1; have HT2 := Lib.hid t2; clear t1 t2 hown10 hgr10 hmv10)
              go_roundw
              case rel => exact ⟨k + 1, by omega, by go_num, vt', vu, _, by rw [HNX.out, HFL.out]; exact ⟨HL'.out.two.other HT1.out (by simp) (by simp) (by simp), HL'.out.enc.step HT1.out (by simp), by unfold flags at HT2 ⊢; rw [List.map_append]; exact HT2.out⟩⟩
              case measure => simp [intOf]; omega
        · obtain rfl : k = NN := by omega
          have key : (k < len ∧ ¬ k < 60) ∨ ¬ k < len := by have := HNN.out; omega
          have HL := Lib.hid hL
          have HF := Lib.hid (show Saving w tt tu E f L k u9 wr from ⟨vt, vu, O, by rw [HRE.out]; exact HL.out⟩)
          clear hlt hL
          rcases key with ⟨h1, h2⟩ | h1
          · go_wp2_with fail
            go_meet
            exact HF.out
          · go_wp2_with fail
            go_meet
            exact HF.out
      -- END save
    case rest =>
      obtain ⟨vt, vu, O5, hL5⟩ := hcut
      obtain ⟨hfi, htab, hll, htu⟩ := HRK.out NN (by omega) (fun i hi => HIS.out.1 i (by omega))
      have HL5 := Lib.hid hL5
      clear hL5 HP0 htab
      have hah := HAH.out (fun i hi => HIS.out.1 i (by omega))
      have hfs := Rc.follows_start (more := []) (hah 0 (Nat.zero_le _))
      have hrd : (runE f L NN).1.bytes = 0 :: Rc.be ((runE f L NN).1.turns + 4) (runE f L NN).1.low ++ [] := by simp [Enc.bytes]
      rw [← hrd] at hfs
      have HFS := Lib.hid hfs
      have HAK := Lib.hid hah
      have HEN := Lib.hid (Rc.enc_end HL5.out.enc (by omega))
      have hbs : (⟨(runE f L NN).1.bytes.toArray⟩ : ByteArray).size ≤ 1000000000000 := by
        show (runE f L NN).1.bytes.toArray.size ≤ _
        simp [Enc.bytes, Rc.be_length]; omega
      have hdt : (⟨(runE f L NN).1.bytes.toArray⟩ : ByteArray).data.toList = (runE f L NN).1.bytes := rfl
      have HND := Lib.hid (fun W O => Rc.newdec (⟨(runE f L NN).1.bytes.toArray⟩ : ByteArray) hbs W O 8)
      rw [hdt] at HND
      have HFN := Lib.hid (okN_len f L NN)
      have HFA := Lib.hid (okN_at f L NN)
      have HSL := Lib.hid HL5.out.was.slice
      have hfl : (flags (okN f L NN)).length = NN := by unfold flags; rw [List.length_map, HFN.out]
      rw [hfl] at HSL
      have HFLL := Lib.hid hfl
      have hR0 : Hid (runE f L 0 = (Enc.start, L)) := Lib.hid rfl
      clear hah hfs hrd hbs hdt hfl htu HAH
      obtain ⟨A9, p9, hc9⟩ := HSL.out
      subst hc9
      clear HSL
      generalize (runE f L NN).1.bytes = BY at *
      generalize hF : (runE f L NN).1.low = F at *
      generalize hT : (runE f L NN).1.turns = T at *
      have HF := Lib.hid hF
      have HT := Lib.hid hT
      clear hF hT
      go_wp2_with fail
      refine HEN.out.mono ?_
      rintro y w10 ⟨rfl, hb10⟩
      have HL10 := Lib.hid (HL5.out.idle (Step.of_below_same hb10 O5))
      clear hb10 HL5 HEN
      go_wp2_with fail
      refine (HND.out _ O5).mono ?_
      rintro y w11 ⟨rfl, O11, hs11, hd11⟩
      generalize w10.heap.size = D at *
      have HG0 : Hid (LockU w tt tu D (Dec.read BY) 0 (runE f L NN).2 L (okN f L NN) vt vu (.slice A9 NN p9) w11 O11) := Lib.hid ⟨HL10.out.two.other hs11 (by simp) (by simp) (by simp), hd11, HL10.out.was.step hs11 (by simp)⟩
      clear hs11 hd11 HL10 HND
      go_wp2_with fail
      go_loopw [16] (fun i wr => ∃ (k : Nat) (d : Dec) (tot : Nat) (vu : Value) (O : Paint), k ≤ NN ∧ i = .int .i64 k ∧ Follows d (runE f L k).1 F T [] ∧ LockU w tt tu D d tot (runE f L NN).2 (runE f L k).2 (okN f L NN) vt vu (.slice A9 NN p9) wr O) (fun i _ => NN - (intOf i).toNat)
      case atStart => exact ⟨0, Dec.read BY, 0, vu, O11, by omega, rfl, by rw [hR0.out]; exact HFS.out, by rw [hR0.out]; exact HG0.out⟩
      case round =>
        clear HG0 HFS hR0
        clear vu
        obtain ⟨k, d, tot, vu, O, hk, rfl, hfo, hL⟩ := hrel
        by_cases hlt : k < NN
        · as_aux_lemma =>
          -- BEGIN read
          obtain ⟨hfi, htab, hll, htu⟩ := HRK.out k (by omega) (fun i hi => HIS.out.1 i (by omega))
          have hak := HAK.out (k + 1) (by omega)
          have hgk := HFA.out k hlt
          obtain ⟨g9, cg9, hv9, _⟩ := hL.was.form (by rw [HFLL.out]; omega)
          rw [HFLL.out] at hv9
          simp only [Value.slice.injEq, true_and] at hv9
          obtain ⟨rfl, rfl⟩ := hv9
          have hgl := hL.was.lt (k := g9) rfl
          have HNX := Lib.hid (show runE f L (k + 1) = stepE (runE f L k).1 (runE f L k).2 (f k) from rfl)
          rw [HNX.out] at hak
          generalize hre : runE f L k = re at *
          have HRE := Lib.hid hre
          obtain ⟨e, l⟩ := re
          simp only at hfi htab hll htu HNX hL hak hfo hgk
          have HTAB := Lib.hid htab
          have HFI := Lib.hid hfi
          clear hre hfi htab
          have hkl : k < len := by omega
          rcases HIS.out.2 with h0 | ⟨b0, off, rfl, hb0, hc⟩
          · omega
          · obtain ⟨hc0, hc1, hc2, hs1, hq⟩ := hc k hkl
            have HOE := Lib.hid (show (∀ l, okE l (f k) = if (f k).any then true else (partR (inN ((f k).text.data.toList.take 200)) (f k).sign l).2.2) from fun l => rfl)
            have HSE := Lib.hid (show (∀ e l, stepE e l (f k) = if (f k).any then (if (inN ((f k).text.data.toList.take 200)) (f k).sign then (e, l) else (e.part (free (inN ((f k).text.data.toList.take 200)) (f k).sign) 1 (free (inN ((f k).text.data.toList.take 200)) 256), l)) else ((putE e l (inN ((f k).text.data.toList.take 200)) (f k).sign).1, addT l (f k).sign)) from fun e l => rfl)
            have hbl := hL.two.run.below
            have c0 := (hbl.cell (p := ⟨b0, off + k * 3, none⟩) hb0).trans hc0
            have c1 := (hbl.cell (p := ⟨b0, off + k * 3 + 1, none⟩) hb0).trans hc1
            have c2 := (hbl.cell (p := ⟨b0, off + k * 3 + 2, none⟩) hb0).trans hc2
            have HL := Lib.hid hL
            have HFO := Lib.hid hfo
            have HAK1 := Lib.hid hak
            have HGK := Lib.hid hgk
            clear hL hbl hc hc0 hc1 hc2 hfo hak hgk
            generalize (f k).sign = s at *
            generalize (f k).text = q at *
            generalize (f k).any = any at *
            generalize hoe : okE l (f k) = ok at *
            have HOK2 := Lib.hid hoe
            generalize hse : stepE e l (f k) = se at *
            have HSE2 := Lib.hid hse
            clear hoe hse
            go_upto_region 28 with (fail)
            have hs7 := Step.alloc_paint wr O 7 (.cells #[.int .u8 (s : Int), .string q, .bool any] 39)
            have HL7 := Lib.hid (HL.out.idle hs7)
            have HV7 := Lib.hid (Blk.new wr O 7 (.cells #[.int .u8 (s : Int), .string q, .bool any] 39))
            clear hs7 HL c0 c1 c2
            generalize wr.alloc (.cells #[.int .u8 (s : Int), .string q, .bool any] 39) = W7 at *
            generalize wr.heap.size = X at *
            generalize Step.paint O wr 7 = O7 at *
            have x1 : W7.cell? ⟨X, 1, none⟩ = some (.string q) := HV7.out.cell 1
            go_wp2_with fail
            refine (sets_any q hq W7 O7 5).mono ?_
            rintro x w8 ⟨b, rfl, O8, hs8, hset8⟩
            have HL8 := Lib.hid (HL7.out.idle hs8)
            have HV8 := Lib.hid (HV7.out.step hs8 (by simp))
            have HS8 := Lib.hid hset8
            clear hs8 hset8 HL7 HV7 x1
            generalize inN (q.data.toList.take 200) = N at *
            go_upto_block 7 with (refine wpList_store_row rfl 41 (.tmp 19) (.tmp 114) rfl w8.heap.size (setA N) (by rfl) (by rfl) 41 Try.zeroCells41 (heap_alloc_new _ _) (by rw [sizeA, setA_size]) (by rw [zeroA, setA_size, setA_size]) (setA_all N) ?_; rw [World.setRow_alloc_new])
            have hs9 := Step.alloc_paint w8 O8 6 (.cells (setA N) 41)
            have HL9 := Lib.hid (HL8.out.idle hs9)
            have HR9 := Lib.hid (show RoundP b w8.heap.size X N s q any (w8.alloc (.cells (setA N) 41)) (Step.paint O8 w8 6) from ⟨HS8.out.step hs9 (by simp), Blk.new w8 O8 6 _, HV8.out.step hs9 (by simp)⟩)
            clear hs9 HL8 HS8 HV8
            generalize w8.alloc (.cells (setA N) 41) = W9 at *
            generalize w8.heap.size = m at *
            generalize Step.paint O8 w8 6 = O9 at *
            have v0 : W9.cell? ⟨X, 0, none⟩ = some (.int .u8 (s : Int)) := HR9.out.var.cell 0
            have v2 : W9.cell? ⟨X, 2, none⟩ = some (.bool any) := HR9.out.var.cell 2
            cases any with
            | true =>
              have HHAS := Lib.hid (setHas HR9.out.set.not s hs1)
              cases hN : N s with
              | true =>
                as_aux_lemma =>
                have HS2 : Hid (se = (e, l)) := Lib.hid (by rw [← HSE2.out, HSE.out, if_pos rfl, if_pos hN])
                rw [hN] at HHAS
                clear hN
                go_wp2_with fail
                refine HHAS.out.mono ?_
                rintro x w10 ⟨rfl, rfl⟩
                go_wp2_with fail
                go_roundw
                case rel => exact ⟨k + 1, d, tot, vu, _, by omega, by go_num, by rw [HNX.out, HS2.out]; exact HFO.out, by rw [HNX.out, HS2.out]; exact HL9.out⟩
                case measure => simp [intOf]; omega
              | false =>
                as_aux_lemma =>
                have HS2 : Hid (se = (e.part (free N s) 1 (free N 256), l)) := Lib.hid (by rw [← HSE2.out, HSE.out, if_pos rfl, if_neg (by rw [hN]; simp)])
                rw [hN] at HHAS
                have hak1 := HAK1.out
                rw [HS2.out] at hak1
                have hfl := free_lt hN hs1
                have hcf := cnt_free N 256
                obtain ⟨g1, g2, g3⟩ := Rc.follows_part HFI.out (Nat.le_refl 1) hfl (by omega) HFO.out hak1
                have HWI : Hid (d.whereIn (free N 256) = free N s) := Lib.hid (by omega)
                have HG3 := Lib.hid g3
                have HGET := Lib.hid (get_other (HR9.out.set.step ((Step.refl [] W9 O9).drew) (by simp)) ((HL9.out.idle (Step.refl [] W9 O9).drew).dec) (by decide) s hs1 hN HWI.out)
                have HLD := Lib.hid (HL9.out.idle (Step.refl [] W9 O9).drew)
                have HVD := Lib.hid (HR9.out.step (Step.refl [] W9 O9).drew (by simp) (by simp) (by simp))
                have T1 := Lib.hid (show W9.drew.cell? ⟨X, 0, none⟩ = some (.int .u8 (s : Int)) from HVD.out.var.cell 0)
                clear hN g1 g2 g3 hak1 hfl hcf
                go_wp2_with fail
                refine HHAS.out.mono ?_
                rintro x w10 ⟨rfl, rfl⟩
                go_upto_region 35 with (fail)
                have hne : ((s : Int) != (s : Int)) = false := by simp
                go_region_held3 (fun W => W.cell? ⟨X, 0, none⟩ = some (.int .u8 (s : Int))) (first | exact T1.out | exact HC11.out | go_keep) ((go_at_call 31; (with_reducible refine HGET.out.mono ?_); rintro x w11 ⟨rfl, hs11, hd11⟩; have HC11 := Lib.hid ((hs11.cell (p := ⟨X, 0, none⟩) HVD.out.var.lt (by rw [HVD.out.var.2]; decide)).trans T1.out); have HL11 := Lib.hid (HLD.out.got hs11 hd11); clear hs11 hd11))
                all_goals
                  go_wp2_with fail
                  go_roundw
                  case rel => exact ⟨k + 1, _, _, vu, _, by omega, by go_num, by rw [HNX.out, HS2.out]; exact HG3.out, by rw [HNX.out, HS2.out]; exact HL11.out⟩
                  case measure => simp [intOf]; omega
            | false =>
              have hal := all_le N HTAB.out (show l.length ≤ 541 by omega)
              have HS2 : Hid (se = ((putE e l N s).1, addT l s)) := Lib.hid (by rw [← HSE2.out, HSE.out, if_neg (by simp)])
              have HO2 : Hid (ok = (putE e l N s).2) := Lib.hid (by rw [← HOK2.out, HOE.out, if_neg (by simp), putE_eq])
              have hak1 := HAK1.out
              rw [HS2.out] at hak1
              obtain ⟨g1, g2⟩ := getD_back HFI.out HTAB.out hal HFO.out hak1
              rw [← HO2.out] at g1
              have HG2 := Lib.hid g2
              have HGET := Lib.hid (get_any HL9.out.two.tabU HTAB.out (by omega) HR9.out.set.not hal HL9.out.dec (by decide) (fun W hW => (HR9.out.set.step hW (by decide)).not))
              generalize getD d l N = gd at *
              obtain ⟨d', b', ok'⟩ := gd
              simp only [Prod.mk.injEq] at g1 HG2
              obtain ⟨g3, rfl⟩ := g1
              clear g2 hak1
              have hb256 : b' < 256 := by rw [g3]; split <;> omega
              cases ok' with
              | true =>
                as_aux_lemma =>
                obtain rfl : b' = s := by rw [g3]; simp
                clear g3
                go_wp2_with fail
                refine HGET.out.mono ?_
                rintro x w11 ⟨rfl, hs11, hd11⟩
                have HL11 := Lib.hid (HL9.out.got hs11 hd11)
                have HR11 := Lib.hid (HR9.out.step hs11 (by simp) (by simp) (by simp))
                clear hs11 hd11 HL9 HR9 v0 v2 HGET
                have v0 : w11.cell? ⟨X, 0, none⟩ = some (.int .u8 (b' : Int)) := HR11.out.var.cell 0
                have y0 := HL11.out.was.cell HGK.out
                have hne : ((b' : Int) != (b' : Int)) = false := by simp
                go_upto_region 33 with (fail)
                clear hne y0
                go_wp2_with fail
                refine (add_any HL11.out.two.tabU HTAB.out (by omega) b' hs1).mono ?_
                rintro x w12 ⟨rfl, ha⟩
                obtain ⟨O12, vu12, hs12, hL12⟩ := HL11.out.add ha
                have HL12 := Lib.hid hL12
                clear hs12 hL12 ha HL11 HR11 v0
                go_wp2_with fail
                go_roundw
                case rel => exact ⟨k + 1, _, _, _, _, by omega, by go_num, by rw [HNX.out, HS2.out]; exact HG2.out, by rw [HNX.out, HS2.out]; exact HL12.out⟩
                case measure => simp [intOf]; omega
              | false =>
                as_aux_lemma =>
                obtain rfl : b' = 0 := by rw [g3]; simp
                clear g3
                go_wp2_with fail
                refine HGET.out.mono ?_
                rintro x w11 ⟨rfl, hs11, hd11⟩
                have HL11 := Lib.hid (HL9.out.got hs11 hd11)
                have HR11 := Lib.hid (HR9.out.step hs11 (by simp) (by simp) (by simp))
                clear hs11 hd11 HL9 HR9 v0 v2 HGET
                have v0 : w11.cell? ⟨X, 0, none⟩ = some (.int .u8 (s : Int)) := HR11.out.var.cell 0
                have y0 := HL11.out.was.cell HGK.out
                go_upto_region 33 with (fail)
                clear y0
                go_wp2_with fail
                refine (add_any HL11.out.two.tabU HTAB.out (by omega) s hs1).mono ?_
                rintro x w12 ⟨rfl, ha⟩
                obtain ⟨O12, vu12, hs12, hL12⟩ := HL11.out.add ha
                have HL12 := Lib.hid hL12
                clear hs12 hL12 ha HL11 HR11 v0
                go_wp2_with fail
                go_roundw
                case rel => exact ⟨k + 1, _, _, _, _, by omega, by go_num, by rw [HNX.out, HS2.out]; exact HG2.out, by rw [HNX.out, HS2.out]; exact HL12.out⟩
                case measure => simp [intOf]; omega
          -- END read
        · as_aux_lemma =>
          -- BEGIN done
          obtain rfl : k = NN := by omega
          rw [← HF.out, ← HT.out] at hfo
          obtain ⟨r1, r2, r3⟩ := Rc.follows_end hfo
          have HDN : Hid (d.done = true) := Lib.hid (by simp [Dec.done, r1, r2])
          have HBD := Lib.hid r3
          have hAl : ∃ A p, (Value.slice A9 k p9) = .slice A p p9 := ⟨_, _, rfl⟩
          have HL := Lib.hid hL
          have HD1 := Lib.hid (Rc.dec_done hL.dec)
          rw [HDN.out] at HD1
          clear r1 r2 r3 hfo hL hlt hAl
          go_wp2_with fail
          refine HD1.out.mono ?_
          rintro y w12 ⟨rfl, n, hn⟩
          have HL12 := Lib.hid (show LockU w tt tu D d tot (runE f L k).2 (runE f L k).2 (okN f L k) vt vu (.slice A9 k p9) w12 O from by rw [hn]; exact HL.out.idle ((Step.refl [] wr O).drewN n))
          have HD2 := Lib.hid (Rc.dec_bad HL12.out.dec)
          rw [HBD.out] at HD2
          clear hn HD1 HL
          go_wp2_with fail
          refine HD2.out.mono ?_
          rintro y w13 ⟨rfl, rfl⟩
          go_wp2_with fail
          go_ret
          exact ⟨rfl, HL12.out.two.run.below⟩
          -- END done
end Go.Proofs.Ythejbnodalnnpaa.Fq
