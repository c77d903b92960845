/-
  Plain arithmetic of digits to 65536.
-/
namespace Go.Proofs.YtefkabkncmflpaaDoor

/-- The first n digits' number. -/
def val (f : Nat → Int) : Nat → Int
  | 0 => 0
  | n + 1 => val f n + f n * 65536 ^ n
def InR (f : Nat → Int) : Prop := ∀ i, i < 20 → 0 ≤ f i ∧ f i < 65536

theorem pow_pos16 (n : Nat) : (0 : Int) < 65536 ^ n := Int.pow_pos (by decide)
theorem pow_succ16 (n : Nat) : (65536 : Int) ^ (n + 1) = 65536 ^ n * 65536 := Int.pow_succ _ _

theorem val_congr {f g : Nat → Int} {n : Nat} (h : ∀ i, i < n → f i = g i) : val f n = val g n := by
  induction n with
  | zero => rfl
  | succ n ih => rw [val, val, ih (fun i hi => h i (by omega)), h n (by omega)]

theorem val_bd {f : Nat → Int} (n : Nat) (h : ∀ i, i < n → 0 ≤ f i ∧ f i < 65536) : 0 ≤ val f n ∧ val f n < 65536 ^ n := by
  induction n with
  | zero => simp [val]
  | succ n ih =>
    have ⟨a, b⟩ := ih (fun i hi => h i (by omega))
    have ⟨c, d⟩ := h n (by omega)
    have p := pow_pos16 n
    rw [val, pow_succ16]
    generalize (65536 : Int) ^ n = P at *
    have e1 : 0 ≤ f n * P := Int.mul_nonneg c (by omega)
    have e2 : f n * P ≤ 65535 * P := Int.mul_le_mul_of_nonneg_right (by omega) (by omega)
    omega

theorem shift16 (X P : Int) : 65536 * X * P = X * (P * 65536) := by rw [Int.mul_comm P, ← Int.mul_assoc, Int.mul_comm X]

/-! sums -/
def pc (a b : Nat → Int) : Nat → Int
  | 0 => 0
  | n + 1 => (a n + b n + pc a b n) / 65536
def pd (a b : Nat → Int) (n : Nat) : Int := (a n + b n + pc a b n) % 65536
theorem pc_bd (a b : Nat → Int) (n : Nat) (ha : ∀ i, i < n → 0 ≤ a i ∧ a i < 65536) (hb : ∀ i, i < n → 0 ≤ b i ∧ b i < 65536) : 0 ≤ pc a b n ∧ pc a b n ≤ 1 := by
  induction n with
  | zero => simp [pc]
  | succ n ih =>
    have := ih (fun i hi => ha i (by omega)) (fun i hi => hb i (by omega))
    have := ha n (by omega)
    have := hb n (by omega)
    rw [pc]; omega
theorem pd_bd (a b : Nat → Int) (n : Nat) : 0 ≤ pd a b n ∧ pd a b n < 65536 := by unfold pd; omega
theorem plus_val (a b : Nat → Int) (n : Nat) : val (pd a b) n + pc a b n * 65536 ^ n = val a n + val b n := by
  induction n with
  | zero => simp [val, pc]
  | succ n ih =>
    have e : a n + b n + pc a b n = pd a b n + 65536 * pc a b (n + 1) := by simp only [pd, pc]; omega
    have e2 : (a n + b n + pc a b n) * 65536 ^ n = (pd a b n + 65536 * pc a b (n + 1)) * 65536 ^ n := by rw [e]
    rw [val, val, val, pow_succ16]
    rw [Int.add_mul, Int.add_mul, Int.add_mul, shift16] at e2
    generalize pc a b (n + 1) * (65536 ^ n * 65536) = X at *
    omega
theorem plus_in (a b : Nat → Int) (ha : InR a) (hb : InR b) (h : val a 20 + val b 20 < 65536 ^ 20) : val (pd a b) 20 = val a 20 + val b 20 := by
  have p := plus_val a b 20
  have c := pc_bd a b 20 ha hb
  have d := val_bd 20 (fun i _ => pd_bd a b i)
  have q := pow_pos16 20
  generalize (65536 : Int) ^ 20 = P at *
  have : pc a b 20 = 0 ∨ pc a b 20 = 1 := by omega
  rcases this with e | e <;> rw [e] at p <;> omega

/-! differences -/
def mb (a b : Nat → Int) : Nat → Int
  | 0 => 0
  | n + 1 => 1 - (65536 + a n - b n - mb a b n) / 65536
def md (a b : Nat → Int) (n : Nat) : Int := (65536 + a n - b n - mb a b n) % 65536
theorem mb_bd (a b : Nat → Int) (n : Nat) (ha : ∀ i, i < n → 0 ≤ a i ∧ a i < 65536) (hb : ∀ i, i < n → 0 ≤ b i ∧ b i < 65536) : 0 ≤ mb a b n ∧ mb a b n ≤ 1 := by
  induction n with
  | zero => simp [mb]
  | succ n ih =>
    have := ih (fun i hi => ha i (by omega)) (fun i hi => hb i (by omega))
    have := ha n (by omega)
    have := hb n (by omega)
    rw [mb]; omega
theorem md_bd (a b : Nat → Int) (n : Nat) : 0 ≤ md a b n ∧ md a b n < 65536 := by unfold md; omega
theorem minus_val (a b : Nat → Int) (n : Nat) : val (md a b) n - mb a b n * 65536 ^ n = val a n - val b n := by
  induction n with
  | zero => simp [val, mb]
  | succ n ih =>
    have e : a n - b n - mb a b n = md a b n - 65536 * mb a b (n + 1) := by simp only [md, mb]; omega
    have e2 : (a n - b n - mb a b n) * 65536 ^ n = (md a b n - 65536 * mb a b (n + 1)) * 65536 ^ n := by rw [e]
    rw [val, val, val, pow_succ16]
    rw [Int.sub_mul, Int.sub_mul, Int.sub_mul, shift16] at e2
    generalize mb a b (n + 1) * (65536 ^ n * 65536) = X at *
    omega
theorem minus_in (a b : Nat → Int) (ha : InR a) (hb : InR b) (h : val b 20 ≤ val a 20) : val (md a b) 20 = val a 20 - val b 20 := by
  have p := minus_val a b 20
  have c := mb_bd a b 20 ha hb
  have d := val_bd 20 (fun i _ => md_bd a b i)
  have d2 := val_bd 20 ha
  have d3 := val_bd 20 hb
  have q := pow_pos16 20
  generalize (65536 : Int) ^ 20 = P at *
  have : mb a b 20 = 0 ∨ mb a b 20 = 1 := by omega
  rcases this with e | e <;> rw [e] at p <;> omega

/-! order -/
/-- The digits from k on are the same. -/
def SameFrom (a b : Nat → Int) (k : Nat) : Prop := ∀ i, k ≤ i → i < 20 → a i = b i
theorem val_split (f : Nat → Int) (k m : Nat) : ∃ R : Int, val f (k + m) = val f k + R * 65536 ^ k ∧ (∀ g, (∀ i, k ≤ i → i < k + m → f i = g i) → val g (k + m) = val g k + R * 65536 ^ k) := by
  induction m with
  | zero => exact ⟨0, by simp, fun g _ => by simp⟩
  | succ m ih =>
    obtain ⟨R, h1, h2⟩ := ih
    refine ⟨R + f (k + m) * 65536 ^ m, ?_, fun g hg => ?_⟩
    · rw [← Nat.add_assoc, val, h1, Int.add_mul, Int.pow_add, Int.mul_comm ((65536 : Int) ^ k), ← Int.mul_assoc, Int.add_assoc]
    · rw [← Nat.add_assoc, val, h2 g (fun i hi hj => hg i hi (by omega)), ← hg (k + m) (by omega) (by omega), Int.add_mul, Int.pow_add, Int.mul_comm ((65536 : Int) ^ k), ← Int.mul_assoc, Int.add_assoc]
theorem lt_of_digit (a b : Nat → Int) (ha : InR a) (hb : InR b) (k : Nat) (hk : k < 20) (hs : SameFrom a b (k + 1)) (h : a k < b k) : val a 20 < val b 20 := by
  obtain ⟨R, h1, h2⟩ := val_split a (k + 1) (20 - (k + 1))
  have h3 := h2 b (fun i hi hj => hs i hi (by omega))
  rw [show k + 1 + (20 - (k + 1)) = 20 by omega] at h1 h3
  rw [h1, h3, val, val]
  have a1 := val_bd k (fun i hi => ha i (by omega))
  have b1 := val_bd k (fun i hi => hb i (by omega))
  have p := pow_pos16 k
  generalize (65536 : Int) ^ k = P at *
  have : (a k + 1) * P ≤ b k * P := Int.mul_le_mul_of_nonneg_right (by omega) (by omega)
  rw [Int.add_mul, Int.one_mul] at this
  omega
theorem eq_of_same (a b : Nat → Int) (h : SameFrom a b 0) : val a 20 = val b 20 := val_congr fun i hi => h i (by omega) hi

/-! products -/
def tc (f b : Nat → Int) (x : Int) (i : Nat) : Nat → Int
  | 0 => 0
  | k + 1 => (f (i + k) + x * b k + tc f b x i k) / 65536
def td (f b : Nat → Int) (x : Int) (i k : Nat) : Int := (f (i + k) + x * b k + tc f b x i k) % 65536
theorem prod_bd (x y : Int) (hx : 0 ≤ x ∧ x < 65536) (hy : 0 ≤ y ∧ y < 65536) : 0 ≤ x * y ∧ x * y ≤ 4294836225 :=
  ⟨Int.mul_nonneg hx.1 hy.1, Int.le_trans (Int.mul_le_mul (show x ≤ 65535 by omega) (show y ≤ 65535 by omega) hy.1 (by omega)) (by decide)⟩
theorem tc_bd (f b : Nat → Int) (x : Int) (i k : Nat) (hk : i + k ≤ 20) (hf : InR f) (hb : InR b) (hx : 0 ≤ x ∧ x < 65536) : 0 ≤ tc f b x i k ∧ tc f b x i k < 65536 := by
  induction k with
  | zero => simp [tc]
  | succ k ih =>
    have := ih (by omega)
    have := hf (i + k) (by omega)
    have := prod_bd x (b k) hx (hb k (by omega))
    rw [tc]
    generalize x * b k = p at *
    omega
theorem td_bd (f b : Nat → Int) (x : Int) (i k : Nat) : 0 ≤ td f b x i k ∧ td f b x i k < 65536 := by unfold td; omega
theorem times_row (f b : Nat → Int) (x : Int) (i m : Nat) : val (td f b x i) m + tc f b x i m * 65536 ^ m = val (fun k => f (i + k)) m + x * val b m := by
  induction m with
  | zero => simp [val, tc]
  | succ n ih =>
    have e : f (i + n) + x * b n + tc f b x i n = td f b x i n + 65536 * tc f b x i (n + 1) := by simp only [td, tc]; omega
    have e2 : (f (i + n) + x * b n + tc f b x i n) * 65536 ^ n = (td f b x i n + 65536 * tc f b x i (n + 1)) * 65536 ^ n := by rw [e]
    rw [val, val, val, pow_succ16, Int.mul_add]
    rw [Int.add_mul, Int.add_mul, Int.add_mul, shift16, Int.mul_assoc] at e2
    generalize tc f b x i (n + 1) * (65536 ^ n * 65536) = X at *
    generalize x * (b n * 65536 ^ n) = Y at *
    omega
theorem val_two (f : Nat → Int) (i m : Nat) : val f (i + m) = val f i + val (fun k => f (i + k)) m * 65536 ^ i := by
  induction m with
  | zero => simp [val]
  | succ m ih => rw [← Nat.add_assoc, val, ih, val, Int.add_mul, Int.pow_add, Int.mul_assoc, Int.mul_comm ((65536 : Int) ^ m), Int.add_assoc]
def tf (a b : Nat → Int) : Nat → Nat → Int
  | 0 => fun _ => 0
  | i + 1 => fun j => if j < i then tf a b i j else td (tf a b i) b (a i) i (j - i)
theorem tf_in (a b : Nat → Int) (i : Nat) : InR (tf a b i) := by
  induction i with
  | zero => intro j _; simp [tf]
  | succ i ih =>
    intro j hj
    unfold tf
    split
    · exact ih j hj
    · exact td_bd _ _ _ _ _
theorem times_mod (a b : Nat → Int) (i : Nat) (hi : i ≤ 20) : ∃ t : Int, val (tf a b i) 20 = val a i * val b 20 + t * 65536 ^ 20 := by
  induction i with
  | zero =>
    refine ⟨0, ?_⟩
    have : ∀ n, val (tf a b 0) n = 0 := fun n => by
      induction n with
      | zero => rfl
      | succ n ih => rw [val, ih]; simp [tf]
    rw [this]; simp [val]
  | succ i ih =>
    obtain ⟨t, ht⟩ := ih (by omega)
    obtain ⟨m, hm⟩ : ∃ m, 20 = i + m := ⟨20 - i, by omega⟩
    have v1 := val_two (tf a b (i + 1)) i m
    have v2 := val_two (tf a b i) i m
    have v3 := val_two b m i
    rw [Nat.add_comm m i] at v3
    rw [← hm] at v1 v2 v3
    have low : val (tf a b (i + 1)) i = val (tf a b i) i := val_congr fun j hj => by simp [tf, hj]
    have high : val (fun k => tf a b (i + 1) (i + k)) m = val (td (tf a b i) b (a i) i) m := val_congr fun j hj => by
      have : ¬ i + j < i := by omega
      simp [tf, this]
    have r := times_row (tf a b i) b (a i) i m
    rw [low, high] at v1
    have hM : (65536 : Int) ^ 20 = 65536 ^ i * 65536 ^ m := by rw [← Int.pow_add, ← hm]
    refine ⟨t - tc (tf a b i) b (a i) i m - a i * val (fun k => b (m + k)) i, ?_⟩
    rw [v1, val, v3]
    rw [v3] at ht
    rw [v2] at ht
    rw [hM] at ht ⊢
    generalize tc (tf a b i) b (a i) i m = c at *
    generalize val (td (tf a b i) b (a i) i) m = D at *
    generalize val (fun k => tf a b i (i + k)) m = F at *
    generalize val (tf a b i) i = G at *
    generalize val (fun k => b (m + k)) i = R at *
    generalize val b m = B at *
    generalize val a i = A at *
    generalize (65536 : Int) ^ i = P at *
    generalize (65536 : Int) ^ m = Q at *
    generalize a i = x at *
    obtain rfl : D = F + x * B - c * Q := by omega
    grind
theorem times_in (a b : Nat → Int) (ha : InR a) (hb : InR b) (h : val a 20 * val b 20 < 65536 ^ 20) : val (tf a b 20) 20 = val a 20 * val b 20 := by
  obtain ⟨t, ht⟩ := times_mod a b 20 (by omega)
  have v := val_bd 20 (tf_in a b 20)
  have va := val_bd 20 ha
  have vb := val_bd 20 hb
  have p := pow_pos16 20
  have m0 : 0 ≤ val a 20 * val b 20 := Int.mul_nonneg va.1 vb.1
  generalize (65536 : Int) ^ 20 = M at *
  generalize val a 20 * val b 20 = X at *
  have t0 : t = 0 := by
    apply Classical.byContradiction
    intro hne
    have : t ≤ -1 ∨ 1 ≤ t := by omega
    rcases this with h1 | h1
    · have : t * M ≤ -1 * M := Int.mul_le_mul_of_nonneg_right h1 (by omega)
      omega
    · have : 1 * M ≤ t * M := Int.mul_le_mul_of_nonneg_right h1 (by omega)
      omega
  subst t0
  omega

/-! quotients, bit by bit -/
def upd (f : Nat → Int) (j : Nat) (v : Int) (i : Nat) : Int := if i = j then v else f i
theorem val_upd (f : Nat → Int) (j : Nat) (v : Int) (n : Nat) (h : j < n) : val (upd f j v) n = val f n + (v - f j) * 65536 ^ j := by
  induction n with
  | zero => omega
  | succ n ih =>
    rw [val, val]
    by_cases e : j = n
    · subst e
      have : val (upd f j v) j = val f j := val_congr fun i hi => by unfold upd; rw [if_neg (by omega)]
      rw [this, upd, if_pos rfl, Int.sub_mul]; omega
    · rw [ih (by omega), upd, if_neg (fun h => e h.symm)]; omega
theorem upd_in {f : Nat → Int} {j : Nat} {v : Int} (h : InR f) (hv : 0 ≤ v ∧ v < 65536) : InR (upd f j v) := fun i hi => by
  unfold upd; split
  · exact hv
  · exact h i hi
theorem pow_two16 (j t : Nat) : (2 : Int) ^ (16 * j + t) = 65536 ^ j * 2 ^ t := by
  rw [Int.pow_add, Int.pow_mul]; rfl
theorem cases16 (t : Nat) (h : t < 16) (P : Nat → Prop) (h0 : P 0) (h1 : P 1) (h2 : P 2) (h3 : P 3) (h4 : P 4) (h5 : P 5) (h6 : P 6) (h7 : P 7) (h8 : P 8) (h9 : P 9) (h10 : P 10) (h11 : P 11) (h12 : P 12) (h13 : P 13) (h14 : P 14) (h15 : P 15) : P t := by
  match t, h with
  | 0, _ => exact h0
  | 1, _ => exact h1
  | 2, _ => exact h2
  | 3, _ => exact h3
  | 4, _ => exact h4
  | 5, _ => exact h5
  | 6, _ => exact h6
  | 7, _ => exact h7
  | 8, _ => exact h8
  | 9, _ => exact h9
  | 10, _ => exact h10
  | 11, _ => exact h11
  | 12, _ => exact h12
  | 13, _ => exact h13
  | 14, _ => exact h14
  | 15, _ => exact h15
  | n + 16, h => omega
theorem pow_t (t : Nat) (h : t < 16) : 1 ≤ (2 : Int) ^ t ∧ (2 : Int) ^ t ≤ 32768 := by
  revert h; intro h
  refine cases16 t h (fun t => 1 ≤ (2 : Int) ^ t ∧ (2 : Int) ^ t ≤ 32768) ?_ ?_ ?_ ?_ ?_ ?_ ?_ ?_ ?_ ?_ ?_ ?_ ?_ ?_ ?_ ?_ <;> decide
theorem bit_mod (x r : Int) (t : Nat) (h : t < 16) : (x + 65536 * r) / 2 ^ t % 2 = x / 2 ^ t % 2 := by
  refine cases16 t h (fun t => (x + 65536 * r) / 2 ^ t % 2 = x / 2 ^ t % 2) ?_ ?_ ?_ ?_ ?_ ?_ ?_ ?_ ?_ ?_ ?_ ?_ ?_ ?_ ?_ ?_ <;> simp <;> omega
theorem val_tail (f : Nat → Int) (j : Nat) (hj : j < 20) : ∃ R : Int, val f 20 = val f j + (f j + 65536 * R) * 65536 ^ j := by
  obtain ⟨m, hm⟩ : ∃ m, 20 = (j + 1) + m := ⟨20 - (j + 1), by omega⟩
  refine ⟨val (fun k => f (j + 1 + k)) m, ?_⟩
  have v := val_two f (j + 1) m
  rw [← hm] at v
  rw [v, val, pow_succ16, Int.add_mul, shift16]; omega
theorem bit_of (f : Nat → Int) (hf : InR f) (j t : Nat) (hj : j < 20) (ht : t < 16) : f j / 2 ^ t % 2 = val f 20 / 2 ^ (16 * j + t) % 2 := by
  obtain ⟨R, hR⟩ := val_tail f j hj
  have vb := val_bd j (fun i hi => hf i (by omega))
  have p := pow_pos16 j
  have e : val f 20 / 65536 ^ j = f j + 65536 * R := by
    rw [hR, Int.add_mul_ediv_right _ _ (by omega), Int.ediv_eq_zero_of_lt vb.1 vb.2, Int.zero_add]
  rw [pow_two16, ← Int.ediv_ediv_of_nonneg (by omega), e, bit_mod _ _ _ ht]

/-- The places of a quotient that are still nought. -/
def Low (f : Nat → Int) (n : Nat) : Prop := ∀ j, j < 20 → (16 * j + 16 ≤ n → f j = 0) ∧ ∀ t, t < 16 → n = 16 * j + t → f j % 2 ^ t = 0
theorem mod_room (x : Int) (t : Nat) (ht : t < 16) (h0 : 0 ≤ x) (h1 : x < 65536) (h : x % 2 ^ (t + 1) = 0) : x + 2 ^ t < 65536 ∧ x % 2 ^ t = 0 ∧ (x + 2 ^ t) % 2 ^ t = 0 := by
  revert h
  refine cases16 t ht (fun t => x % 2 ^ (t + 1) = 0 → x + 2 ^ t < 65536 ∧ x % 2 ^ t = 0 ∧ (x + 2 ^ t) % 2 ^ t = 0) ?_ ?_ ?_ ?_ ?_ ?_ ?_ ?_ ?_ ?_ ?_ ?_ ?_ ?_ ?_ ?_ <;> simp <;> omega
theorem Low.at {f : Nat → Int} {j t : Nat} (hj : j < 20) (ht : t < 16) (h : Low f (16 * j + t + 1)) : f j % 2 ^ (t + 1) = 0 := by
  by_cases e : t + 1 < 16
  · exact (h j hj).2 (t + 1) e (by omega)
  · rw [(h j hj).1 (by omega)]; simp
theorem Low.keep {f : Nat → Int} (hf : InR f) {j t : Nat} (hj : j < 20) (ht : t < 16) (h : Low f (16 * j + t + 1)) : Low f (16 * j + t) := fun k hk => by
  refine ⟨fun h1 => (h k hk).1 (by omega), fun s hs h1 => ?_⟩
  obtain rfl : k = j := by omega
  obtain rfl : s = t := by omega
  exact (mod_room _ _ ht (hf k hj).1 (hf k hj).2 (h.at hj ht)).2.1
theorem Low.put {f : Nat → Int} (hf : InR f) {j t : Nat} (hj : j < 20) (ht : t < 16) (h : Low f (16 * j + t + 1)) : Low (upd f j (f j + 2 ^ t)) (16 * j + t) := fun k hk => by
  refine ⟨fun h1 => ?_, fun s hs h1 => ?_⟩
  · rw [upd, if_neg (by omega)]; exact (h k hk).1 (by omega)
  · obtain rfl : k = j := by omega
    obtain rfl : s = t := by omega
    rw [upd, if_pos rfl]
    exact (mod_room _ _ ht (hf k hj).1 (hf k hj).2 (h.at hj ht)).2.2

/-- One step of the division. -/
theorem over_step (N B : Int) (n : Nat) (hB : 0 < B) (_hN : 0 ≤ N) :
    (B ≤ 2 * (N / 2 ^ (n + 1) % B) + N / 2 ^ n % 2 → N / 2 ^ n % B = 2 * (N / 2 ^ (n + 1) % B) + N / 2 ^ n % 2 - B ∧ N / 2 ^ n / B * 2 ^ n = N / 2 ^ (n + 1) / B * 2 ^ (n + 1) + 2 ^ n) ∧
    (2 * (N / 2 ^ (n + 1) % B) + N / 2 ^ n % 2 < B → N / 2 ^ n % B = 2 * (N / 2 ^ (n + 1) % B) + N / 2 ^ n % 2 ∧ N / 2 ^ n / B * 2 ^ n = N / 2 ^ (n + 1) / B * 2 ^ (n + 1)) := by
  have p : (0 : Int) < 2 ^ n := Int.pow_pos (by decide)
  have e : N / 2 ^ (n + 1) = N / 2 ^ n / 2 := by rw [Int.pow_succ, ← Int.ediv_ediv_of_nonneg (by omega)]
  rw [e, Int.pow_succ]
  generalize N / 2 ^ n = X
  generalize (2 : Int) ^ n = P at *
  have h1 := Int.mul_ediv_add_emod (X / 2) B
  have h2 := Int.emod_nonneg (X / 2) (show B ≠ 0 by omega)
  have h3 := Int.emod_lt_of_pos (X / 2) hB
  have hX : X = 2 * (X / 2) + X % 2 := by omega
  have hb : 0 ≤ X % 2 ∧ X % 2 ≤ 1 := by omega
  generalize X / 2 / B = q at *
  generalize X / 2 % B = r at *
  generalize X % 2 = b at *
  have key : X = B * (2 * q) + (2 * r + b) := by rw [hX, ← h1]; grind
  constructor
  · intro h
    have e1 : X / B = 2 * q + 1 := by
      have : X = B * (2 * q + 1) + (2 * r + b - B) := by rw [key]; grind
      rw [this, Int.mul_comm, Int.mul_add_ediv_right _ _ (by omega)]
      rw [Int.ediv_eq_zero_of_lt (by omega) (by omega)]; omega
    have e2 : X % B = 2 * r + b - B := by
      have := Int.mul_ediv_add_emod X B
      rw [e1] at this
      grind
    refine ⟨e2, ?_⟩
    rw [e1]; grind
  · intro h
    have e1 : X / B = 2 * q := by
      rw [key, Int.mul_comm, Int.mul_add_ediv_right _ _ (by omega)]
      rw [Int.ediv_eq_zero_of_lt (by omega) (by omega)]; omega
    have e2 : X % B = 2 * r + b := by
      have := Int.mul_ediv_add_emod X B
      rw [e1] at this
      grind
    refine ⟨e2, ?_⟩
    rw [e1]; grind

end Go.Proofs.YtefkabkncmflpaaDoor
