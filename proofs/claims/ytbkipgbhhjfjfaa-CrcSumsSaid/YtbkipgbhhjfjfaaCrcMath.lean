/-
  Plain mathematics of the sum of layer 1 (a polynomial remainder, bit by bit, on natural numbers): it is linear, and a burst of at most 32 bits is never lost. No program is named here.
-/
namespace Go.Proofs.Ytbkipgbhhjfjfaa.Crc

def M (z : Nat) : Nat := if z % 2 = 1 then (z / 2) ^^^ 3988292384 else z / 2
def Mn : Nat → Nat → Nat
  | 0, z => z
  | n + 1, z => Mn n (M z)
def upd (r : Nat) (b : Nat) : Nat := Mn 8 (r ^^^ b)
def upds (r : Nat) (l : List Nat) : Nat := l.foldl upd r
def nats (l : List UInt8) : List Nat := l.map UInt8.toNat
def sum (l : List UInt8) : Nat := upds 4294967295 (nats l) ^^^ 4294967295

theorem xor_lt {a b : Nat} (ha : a < 4294967296) (hb : b < 4294967296) : a ^^^ b < 4294967296 := Nat.xor_lt_two_pow (n := 32) ha hb
theorem M_lt {z : Nat} (h : z < 4294967296) : M z < 4294967296 := by
  unfold M; split
  · exact xor_lt (by omega) (by omega)
  · omega
theorem Mn_lt (n : Nat) : ∀ {z : Nat}, z < 4294967296 → Mn n z < 4294967296 := by
  induction n with
  | zero => intro z h; exact h
  | succ n ih => intro z h; exact ih (M_lt h)
theorem Mn_succ (n : Nat) : ∀ z, Mn (n + 1) z = M (Mn n z) := by
  induction n with
  | zero => intro z; rfl
  | succ n ih => intro z; show Mn (n + 1) (M z) = M (Mn n (M z)); exact ih (M z)
theorem Mn_add (m n : Nat) : ∀ z, Mn (m + n) z = Mn n (Mn m z) := by
  induction m with
  | zero => intro z; rw [Nat.zero_add]; rfl
  | succ m ih => intro z; rw [Nat.succ_add]; exact ih (M z)
theorem upd_lt {r b : Nat} (hr : r < 4294967296) (hb : b < 4294967296) : upd r b < 4294967296 := Mn_lt 8 (xor_lt hr hb)
theorem nat_lt (b : UInt8) : b.toNat < 256 := b.toNat_lt
theorem upds_lt (l : List UInt8) : ∀ {r : Nat}, r < 4294967296 → upds r (nats l) < 4294967296 := by
  induction l with
  | nil => intro r h; exact h
  | cons b l ih => intro r h; exact ih (upd_lt h (by have := nat_lt b; omega))
theorem sum_lt (l : List UInt8) : sum l < 4294967296 := xor_lt (upds_lt l (by omega)) (by omega)
theorem upds_append (r : Nat) (a b : List Nat) : upds r (a ++ b) = upds (upds r a) b := List.foldl_append
theorem nats_append (a b : List UInt8) : nats (a ++ b) = nats a ++ nats b := List.map_append
theorem upds_snoc (r : Nat) (a : List UInt8) (b : UInt8) : upds r (nats (a ++ [b])) = upd (upds r (nats a)) b.toNat := by
  rw [nats_append, upds_append]; rfl
theorem xor_ends (a : Nat) : (a ^^^ 4294967295) ^^^ 4294967295 = a := by rw [Nat.xor_assoc, Nat.xor_self, Nat.xor_zero]
theorem sum_add (a b : List UInt8) : upds (sum a ^^^ 4294967295) (nats b) ^^^ 4294967295 = sum (a ++ b) := by
  unfold sum; rw [xor_ends, nats_append, upds_append]

theorem div_two_xor (a b : Nat) : (a ^^^ b) / 2 = a / 2 ^^^ b / 2 := by
  have := Nat.shiftRight_xor_distrib (i := 1) (a := a) (b := b)
  simpa [Nat.shiftRight_eq_div_pow] using this
theorem mod_two_xor (a b : Nat) : (a ^^^ b) % 2 = (a % 2 + b % 2) % 2 := by
  have h := Nat.xor_mod_two_pow (a := a) (b := b) (n := 1)
  simp only [Nat.pow_one] at h
  rw [h]
  rcases Nat.mod_two_eq_zero_or_one a with ha | ha <;> rcases Nat.mod_two_eq_zero_or_one b with hb | hb <;> rw [ha, hb] <;> rfl
theorem xor_swap (a b c d : Nat) : (a ^^^ b) ^^^ (c ^^^ d) = (a ^^^ c) ^^^ (b ^^^ d) := by
  rw [Nat.xor_assoc, Nat.xor_assoc, ← Nat.xor_assoc b c d, Nat.xor_comm b c, Nat.xor_assoc c b d]
theorem M_xor (a b : Nat) : M (a ^^^ b) = M a ^^^ M b := by
  unfold M
  rw [mod_two_xor, div_two_xor]
  rcases Nat.mod_two_eq_zero_or_one a with ha | ha <;> rcases Nat.mod_two_eq_zero_or_one b with hb | hb
  · simp [ha, hb]
  · simp [ha, hb, Nat.xor_assoc]
  · simp only [ha, hb]; simp
    rw [Nat.xor_assoc, Nat.xor_assoc, Nat.xor_comm (b / 2)]
  · simp only [ha, hb]; simp
    rw [xor_swap, Nat.xor_self, Nat.xor_zero]
theorem Mn_xor (n : Nat) : ∀ a b, Mn n (a ^^^ b) = Mn n a ^^^ Mn n b := by
  induction n with
  | zero => intro a b; rfl
  | succ n ih => intro a b; show Mn n (M (a ^^^ b)) = _; rw [M_xor, ih]; rfl
theorem M_two (z : Nat) : M (2 * z) = z := by
  unfold M
  rw [if_neg (by omega)]; omega
theorem Mn_pow (n : Nat) : ∀ z, Mn n (2 ^ n * z) = z := by
  induction n with
  | zero => intro z; simp [Mn]
  | succ n ih =>
    intro z
    show Mn n (M (2 ^ (n + 1) * z)) = z
    rw [show 2 ^ (n + 1) * z = 2 * (2 ^ n * z) from by rw [Nat.pow_succ, Nat.mul_comm (2 ^ n) 2, Nat.mul_assoc], M_two]
    exact ih z
theorem M_zero {z : Nat} (h : z < 4294967296) (e : M z = 0) : z = 0 := by
  unfold M at e
  split at e
  · rename_i ho
    have h2 : z / 2 = 3988292384 := by
      have h3 := congrArg (· ^^^ 3988292384) e
      simpa only [Nat.xor_assoc, Nat.xor_self, Nat.xor_zero, Nat.zero_xor] using h3
    omega
  · omega
theorem Mn_zero (n : Nat) : ∀ {z : Nat}, z < 4294967296 → Mn n z = 0 → z = 0 := by
  induction n with
  | zero => intro z _ e; exact e
  | succ n ih => intro z h e; exact M_zero h (ih (M_lt h) e)
theorem Mn_null (n : Nat) : Mn n 0 = 0 := by
  induction n with
  | zero => rfl
  | succ n ih => show Mn n (M 0) = 0; exact ih

/-- The bytes of a number, the lowest first, n of them. -/
def bytes : Nat → Nat → List Nat
  | 0, _ => []
  | n + 1, D => D % 256 :: bytes n (D / 256)
theorem split256 (D n : Nat) : D % 256 ^^^ 256 * (D / 256 % 2 ^ (8 * n)) = D % 2 ^ (8 * (n + 1)) := by
  have e1 : D % 2 ^ (8 * (n + 1)) = D % 256 + 256 * (D / 256 % 2 ^ (8 * n)) := by
    rw [show 2 ^ (8 * (n + 1)) = 256 * 2 ^ (8 * n) from by rw [Nat.mul_add, Nat.pow_add, Nat.mul_comm]]
    exact Nat.mod_mul
  rw [e1]
  apply Nat.eq_of_testBit_eq
  intro i
  rw [Nat.testBit_xor]
  have hlt : D % 256 < 2 ^ 8 := Nat.mod_lt _ (by omega)
  rw [show (D % 256 + 256 * (D / 256 % 2 ^ (8 * n))) = 2 ^ 8 * (D / 256 % 2 ^ (8 * n)) + D % 256 from by omega, Nat.testBit_two_pow_mul_add _ hlt]
  rw [show 256 * (D / 256 % 2 ^ (8 * n)) = 2 ^ 8 * (D / 256 % 2 ^ (8 * n)) from rfl, Nat.testBit_two_pow_mul]
  by_cases hi : i < 8
  · have h8 : ¬ 8 ≤ i := by omega
    simp [hi, h8]
  · rw [if_neg hi, Nat.testBit_lt_two_pow (x := D % 256) (i := i) (Nat.lt_of_lt_of_le hlt (Nat.pow_le_pow_right (by omega) (by omega)))]
    simp; omega
theorem upds_bytes (n : Nat) : ∀ D r, upds r (bytes n D) = Mn (8 * n) (r ^^^ D % 2 ^ (8 * n)) := by
  induction n with
  | zero => intro D r; simp [bytes, upds, Mn, Nat.mod_one]
  | succ n ih =>
    intro D r
    show upds (upd r (D % 256)) (bytes n (D / 256)) = _
    rw [ih, ← split256, ← Nat.xor_assoc, upd, show 8 * (n + 1) = 8 + 8 * n from by omega, Mn_add 8 (8 * n), Mn_xor 8 (r ^^^ D % 256)]
    rw [show 256 * (D / 256 % 2 ^ (8 * n)) = 2 ^ 8 * (D / 256 % 2 ^ (8 * n)) from rfl, Mn_pow 8]

/-- Two texts of one length: the sums' difference is that of their differences. -/
theorem upds_xor : ∀ (a b : List Nat) (r q : Nat), a.length = b.length → upds r a ^^^ upds q b = upds (r ^^^ q) (List.zipWith (· ^^^ ·) a b) := by
  intro a
  induction a with
  | nil => intro b r q h; cases b with
    | nil => rfl
    | cons => simp at h
  | cons x a ih => intro b r q h; cases b with
    | nil => simp at h
    | cons y b =>
      show upds (upd r x) a ^^^ upds (upd q y) b = upds (upd (r ^^^ q) (x ^^^ y)) (List.zipWith (· ^^^ ·) a b)
      rw [ih b _ _ (by simpa using h)]
      unfold upd; rw [xor_swap r q x y, Mn_xor 8 (r ^^^ x) (q ^^^ y)]

/-- A burst: W, of at most 32 bits, at bit 'at': its sum is 0 only where nothing of it lies within the n bytes. -/
theorem burst (W k n : Nat) (hW : W < 4294967296) (e : upds 0 (bytes n (W * 2 ^ k)) = 0) : W * 2 ^ k % 2 ^ (8 * n) = 0 := by
  rw [upds_bytes, Nat.zero_xor] at e
  by_cases hk : k ≤ 8 * n
  · obtain ⟨m, hm⟩ : ∃ m, 8 * n = k + m := ⟨8 * n - k, by omega⟩
    rw [hm, Nat.pow_add, Nat.mul_comm W, Nat.mul_mod_mul_left] at e ⊢
    rw [Mn_add, Mn_pow] at e
    rw [Mn_zero m (Nat.lt_of_le_of_lt (Nat.mod_le _ _) hW) e, Nat.mul_zero]
  · obtain ⟨m, hm⟩ : ∃ m, k = 8 * n + m := ⟨k - 8 * n, by omega⟩
    rw [hm, Nat.pow_add, show W * (2 ^ (8 * n) * 2 ^ m) = 2 ^ (8 * n) * (W * 2 ^ m) from by rw [Nat.mul_left_comm]]
    exact Nat.mul_mod_right _ _
theorem bytes_zero (n : Nat) : ∀ D, D % 2 ^ (8 * n) = 0 → ∀ x ∈ bytes n D, x = 0 := by
  induction n with
  | zero => intro D _ x hx; simp [bytes] at hx
  | succ n ih =>
    intro D h x hx
    rw [show 2 ^ (8 * (n + 1)) = 256 * 2 ^ (8 * n) from by rw [Nat.mul_add, Nat.pow_add, Nat.mul_comm], Nat.mod_mul] at h
    rcases List.mem_cons.1 hx with rfl | hx
    · omega
    · exact ih (D / 256) (by omega) x hx
theorem bytes_length (n : Nat) : ∀ D, (bytes n D).length = n := by
  induction n with
  | zero => intro D; rfl
  | succ n ih => intro D; simp [bytes, ih]
theorem bytes_at (n : Nat) : ∀ D j, j < n → (bytes n D)[j]? = some (D / 2 ^ (8 * j) % 256) := by
  induction n with
  | zero => intro D j h; omega
  | succ n ih =>
    intro D j h
    cases j with
    | zero => simp [bytes]
    | succ j =>
      rw [bytes, List.getElem?_cons_succ, ih _ _ (by omega), Nat.div_div_eq_div_mul, show 8 * (j + 1) = 8 + 8 * j from by omega, Nat.pow_add]

/-- The bytes of a text, with a burst turned: at place j the byte of s and of W * 2 ^ k. -/
def turned (s : List UInt8) (D : Nat) : List UInt8 := (List.range s.length).map fun j => UInt8.ofNat ((s.getD j 0).toNat ^^^ (D / 2 ^ (8 * j) % 256))
theorem turned_length (s : List UInt8) (D : Nat) : (turned s D).length = s.length := by simp [turned]
theorem turned_at (s : List UInt8) (D j : Nat) (h : j < s.length) : (turned s D)[j]? = some (UInt8.ofNat ((s.getD j 0).toNat ^^^ (D / 2 ^ (8 * j) % 256))) := by
  simp [turned, h]
theorem byte_xor_lt (b : UInt8) (x : Nat) : b.toNat ^^^ (x % 256) < 256 := Nat.xor_lt_two_pow (n := 8) (nat_lt b) (Nat.mod_lt _ (by omega))
theorem zip_turned (s : List UInt8) (D : Nat) : List.zipWith (· ^^^ ·) (nats (turned s D)) (nats s) = bytes s.length D := by
  apply List.ext_getElem?
  intro j
  by_cases h : j < s.length
  · rw [bytes_at _ _ _ h, List.getElem?_zipWith, nats, List.getElem?_map, turned_at _ _ _ h, nats, List.getElem?_map, List.getElem?_eq_getElem h]
    simp only [Option.map_some]
    have e : s.getD j 0 = s[j] := by simp [List.getD, h]
    rw [e, UInt8.toNat_ofNat_of_lt' (byte_xor_lt _ _)]
    rw [Nat.xor_comm, ← Nat.xor_assoc, Nat.xor_self, Nat.zero_xor]
  · rw [List.getElem?_eq_none (by simp [nats, turned_length]; omega), List.getElem?_eq_none (by rw [bytes_length]; omega)]
theorem turned_same (s : List UInt8) (D : Nat) (h : D % 2 ^ (8 * s.length) = 0) : turned s D = s := by
  apply List.ext_getElem?
  intro j
  by_cases hj : j < s.length
  · have hb := bytes_at s.length D j hj
    have hz := bytes_zero s.length D h _ (List.mem_of_getElem? hb)
    rw [turned_at _ _ _ hj, hz, List.getElem?_eq_getElem hj]
    simp [List.getD, hj]
  · rw [List.getElem?_eq_none (by rw [turned_length]; omega), List.getElem?_eq_none (by omega)]
/-- P1.2: a burst is found. -/
theorem bursts (s : List UInt8) (W k : Nat) (hW : W < 4294967296) : (sum (turned s (W * 2 ^ k)) = sum s) ↔ (turned s (W * 2 ^ k) = s) := by
  constructor
  · intro e
    have e2 : upds 4294967295 (nats (turned s (W * 2 ^ k))) = upds 4294967295 (nats s) := by
      unfold sum at e
      have := congrArg (· ^^^ 4294967295) e
      simpa only [xor_ends] using this
    have e3 := upds_xor (nats (turned s (W * 2 ^ k))) (nats s) 4294967295 4294967295 (by simp [nats, turned_length])
    rw [e2, Nat.xor_self, Nat.xor_self, zip_turned] at e3
    exact turned_same s _ (burst W k s.length hW e3.symm)
  · intro e; rw [e]
theorem turned_zero (s : List UInt8) : turned s 0 = s := turned_same s 0 (Nat.zero_mod _)
/-- The first k bits of W, at bit c. -/
def part (s : List UInt8) (c W k : Nat) : List UInt8 := turned s (W % 2 ^ k * 2 ^ c)
theorem part_zero (s : List UInt8) (c W : Nat) : part s c W 0 = s := by unfold part; rw [Nat.pow_zero, Nat.mod_one, Nat.zero_mul]; exact turned_zero s
theorem part_length (s : List UInt8) (c W k : Nat) : (part s c W k).length = s.length := turned_length _ _
theorem part_keep (s : List UInt8) (c W k : Nat) (h : W / 2 ^ k % 2 = 0) : part s c W (k + 1) = part s c W k := by
  unfold part; rw [Nat.mod_pow_succ, h, Nat.mul_zero, Nat.add_zero]
theorem xor_bit (a m : Nat) (h : a < 2 ^ m) : a + 2 ^ m = a ^^^ 2 ^ m := by
  apply Nat.eq_of_testBit_eq
  intro i
  rw [Nat.testBit_xor, show a + 2 ^ m = 2 ^ m * 1 + a from by omega, Nat.testBit_two_pow_mul_add _ h, Nat.testBit_two_pow]
  by_cases hi : i < m
  · rw [if_pos hi, decide_eq_false (by omega), Bool.xor_false]
  · rw [if_neg hi, Nat.testBit_lt_two_pow (Nat.lt_of_lt_of_le h (Nat.pow_le_pow_right (by omega) (by omega))), Bool.false_xor]
    by_cases he : m = i
    · subst he; simp
    · rw [decide_eq_false he]
      exact Nat.testBit_lt_two_pow (x := 1) (Nat.one_lt_two_pow (by omega))
theorem byte_xor (a b j : Nat) : (a ^^^ b) / 2 ^ (8 * j) % 256 = (a / 2 ^ (8 * j) % 256) ^^^ (b / 2 ^ (8 * j) % 256) := by
  rw [← Nat.shiftRight_eq_div_pow, Nat.shiftRight_xor_distrib, show (256 : Nat) = 2 ^ 8 from rfl, Nat.xor_mod_two_pow, Nat.shiftRight_eq_div_pow, Nat.shiftRight_eq_div_pow]
theorem byte_bit (m j : Nat) : 2 ^ m / 2 ^ (8 * j) % 256 = if j = m / 8 then 2 ^ (m % 8) else 0 := by
  by_cases h1 : m < 8 * j
  · rw [if_neg (by omega), Nat.div_eq_of_lt (Nat.pow_lt_pow_right (by omega) h1)]
  · obtain ⟨d, hd⟩ : ∃ d, m = 8 * j + d := ⟨m - 8 * j, by omega⟩
    rw [hd, Nat.pow_add, Nat.mul_div_cancel_left _ (Nat.two_pow_pos _)]
    by_cases h2 : d < 8
    · rw [if_pos (by omega), show (8 * j + d) % 8 = d from by omega]
      exact Nat.mod_eq_of_lt (Nat.pow_lt_pow_right (a := 2) (m := d) (n := 8) (by omega) h2)
    · obtain ⟨e, he⟩ : ∃ e, d = 8 + e := ⟨d - 8, by omega⟩
      rw [if_neg (by omega), he, Nat.pow_add]
      exact Nat.mul_mod_right _ _
theorem part_turn (s : List UInt8) (c W k : Nat) (h : W / 2 ^ k % 2 = 1) :
    part s c W (k + 1) = (part s c W k).set ((c + k) / 8) (UInt8.ofNat (((part s c W k).getD ((c + k) / 8) 0).toNat ^^^ 2 ^ ((c + k) % 8))) := by
  have hlt : W % 2 ^ k * 2 ^ c < 2 ^ (c + k) := by
    rw [Nat.add_comm, Nat.pow_add]
    exact Nat.mul_lt_mul_of_pos_right (Nat.mod_lt _ (Nat.two_pow_pos _)) (Nat.two_pow_pos _)
  have hD : W % 2 ^ (k + 1) * 2 ^ c = (W % 2 ^ k * 2 ^ c) ^^^ 2 ^ (c + k) := by
    rw [Nat.mod_pow_succ, h, Nat.mul_one, Nat.add_mul, ← xor_bit _ _ hlt, Nat.pow_add, Nat.mul_comm (2 ^ k)]
  apply List.ext_getElem?
  intro j
  by_cases hj : j < s.length
  · unfold part
    rw [hD, turned_at _ _ _ hj, byte_xor, byte_bit, List.getElem?_set]
    by_cases he : (c + k) / 8 = j
    · subst he
      rw [if_pos rfl, if_pos rfl, if_pos (by rw [turned_length]; exact hj)]
      have e := turned_at s (W % 2 ^ k * 2 ^ c) _ hj
      rw [List.getD_eq_getElem?_getD (l := turned s _), e, Option.getD_some, UInt8.toNat_ofNat_of_lt' (byte_xor_lt _ _), Nat.xor_assoc]
    · rw [if_neg (fun h => he h.symm), if_neg he, Nat.xor_zero, turned_at _ _ _ hj]
  · rw [List.getElem?_eq_none (by rw [part_length]; omega), List.getElem?_eq_none (by rw [List.length_set, part_length]; omega)]
theorem part_out (s : List UInt8) (c W k : Nat) (h : W / 2 ^ k % 2 = 1) (ho : s.length ≤ (c + k) / 8) : part s c W (k + 1) = part s c W k := by
  rw [part_turn s c W k h, List.set_eq_of_length_le (by rw [part_length]; exact ho)]
theorem part_all (s : List UInt8) (c W : Nat) (h : W < 4294967296) : part s c W 32 = turned s (W * 2 ^ c) := by
  unfold part; rw [Nat.mod_eq_of_lt h]
theorem part_byte (c k : Nat) (x : UInt8) : x.toNat ^^^ 2 ^ ((c + k) % 8) < 256 :=
  Nat.xor_lt_two_pow (n := 8) (nat_lt x) (Nat.pow_lt_pow_right (a := 2) (m := (c + k) % 8) (n := 8) (by omega) (by omega))
theorem sub_ends {r : Nat} (h : r < 4294967296) : 4294967295 - r = r ^^^ 4294967295 := by
  apply Nat.eq_of_testBit_eq
  intro i
  rw [show 4294967295 - r = 2 ^ 32 - (r + 1) from by omega, Nat.testBit_two_pow_sub_succ h, Nat.testBit_xor, show 4294967295 = 2 ^ 32 - 1 from rfl, Nat.testBit_two_pow_sub_one]
  by_cases hi : i < 32
  · simp [hi]
  · rw [Nat.testBit_lt_two_pow (x := r) (i := i) (Nat.lt_of_lt_of_le h (Nat.pow_le_pow_right (n := 2) (by omega) (by omega : 32 ≤ i)))]
    simp [hi]
end Go.Proofs.Ytbkipgbhhjfjfaa.Crc
