/-
  Plain: rows as keys, and back; the order of bytes; what is above all that begin with some bytes. Nothing of the program.
-/
import Derived.Test.YtaedhedbmbmdoaaProg
namespace Go.Proofs.Ytaedhedbmbmdoaa

/-- Bytes. -/
def Byt (L : List Int) : Prop := ∀ x ∈ L, 0 ≤ x ∧ x < 256
theorem Byt.nil : Byt [] := fun _ h => by cases h
theorem Byt.head {x : Int} {L : List Int} (h : Byt (x :: L)) : 0 ≤ x ∧ x < 256 := h x (by simp)
theorem Byt.tail {x : Int} {L : List Int} (h : Byt (x :: L)) : Byt L := fun y hy => h y (List.mem_cons_of_mem _ hy)
theorem Byt.cons {x : Int} {L : List Int} (h0 : 0 ≤ x) (h1 : x < 256) (h : Byt L) : Byt (x :: L) := fun y hy => by
  rcases List.mem_cons.1 hy with rfl | hy
  · exact ⟨h0, h1⟩
  · exact h y hy
theorem Byt.append {L M : List Int} (h : Byt L) (g : Byt M) : Byt (L ++ M) := fun x hx => by
  rcases List.mem_append.1 hx with hx | hx
  · exact h x hx
  · exact g x hx
theorem Byt.drop {L : List Int} (h : Byt L) (n : Nat) : Byt (L.drop n) := fun x hx => h x (List.mem_of_mem_drop hx)
theorem Byt.take {L : List Int} (h : Byt L) (n : Nat) : Byt (L.take n) := fun x hx => h x (List.mem_of_mem_take hx)

/-- Bytes in order: -1, 0, 1. -/
def cmpL : List Int → List Int → Int
  | [], [] => 0
  | [], _ :: _ => -1
  | _ :: _, [] => 1
  | x :: s, y :: t => if x < y then -1 else if y < x then 1 else cmpL s t
theorem cmpL_self : ∀ L, cmpL L L = 0
  | [] => rfl
  | x :: s => by unfold cmpL; rw [if_neg (by omega), if_neg (by omega)]; exact cmpL_self s
theorem cmpL_cons (x : Int) (s t : List Int) : cmpL (x :: s) (x :: t) = cmpL s t := by
  conv => lhs; unfold cmpL
  rw [if_neg (by omega), if_neg (by omega)]
theorem cmpL_lt (x y : Int) (s t : List Int) (h : x < y) : cmpL (x :: s) (y :: t) = -1 := by unfold cmpL; rw [if_pos h]
theorem cmpL_gt (x y : Int) (s t : List Int) (h : y < x) : cmpL (x :: s) (y :: t) = 1 := by unfold cmpL; rw [if_neg (by omega), if_pos h]
theorem cmpL_three : ∀ (s t : List Int), cmpL s t = -1 ∨ cmpL s t = 0 ∨ cmpL s t = 1
  | [], [] => .inr (.inl rfl)
  | [], _ :: _ => .inl rfl
  | _ :: _, [] => .inr (.inr rfl)
  | x :: s, y :: t => by
    unfold cmpL
    split
    · exact .inl rfl
    · split
      · exact .inr (.inr rfl)
      · exact cmpL_three s t
theorem cmpL_flip : ∀ (s t : List Int), cmpL t s = -cmpL s t
  | [], [] => rfl
  | [], _ :: _ => rfl
  | _ :: _, [] => rfl
  | x :: s, y :: t => by
    rcases Int.lt_trichotomy x y with h | rfl | h
    · rw [cmpL_lt _ _ _ _ h, cmpL_gt _ _ _ _ h]; rfl
    · rw [cmpL_cons, cmpL_cons]; exact cmpL_flip s t
    · rw [cmpL_gt _ _ _ _ h, cmpL_lt _ _ _ _ h]
theorem cmpL_eq : ∀ (s t : List Int), cmpL s t = 0 → s = t
  | [], [], _ => rfl
  | [], _ :: _, h => by simp [cmpL] at h
  | _ :: _, [], h => by simp [cmpL] at h
  | x :: s, y :: t, h => by
    rcases Int.lt_trichotomy x y with g | rfl | g
    · rw [cmpL_lt _ _ _ _ g] at h; simp at h
    · rw [cmpL_cons] at h; rw [cmpL_eq s t h]
    · rw [cmpL_gt _ _ _ _ g] at h; simp at h
/-- Behind bytes of one length the first ones decide, if they differ. -/
theorem cmpL_same : ∀ (s t u v : List Int), s.length = t.length → cmpL (s ++ u) (t ++ v) = if cmpL s t ≠ 0 then cmpL s t else cmpL u v
  | [], [], u, v, _ => by simp [cmpL]
  | [], _ :: _, _, _, h => by simp at h
  | _ :: _, [], _, _, h => by simp at h
  | x :: s, y :: t, u, v, h => by
    have hl : s.length = t.length := by simpa using h
    rcases Int.lt_trichotomy x y with g | rfl | g
    · rw [List.cons_append, List.cons_append, cmpL_lt _ _ _ _ g, cmpL_lt _ _ _ _ g]; rfl
    · rw [List.cons_append, List.cons_append, cmpL_cons, cmpL_cons]; exact cmpL_same s t u v hl
    · rw [List.cons_append, List.cons_append, cmpL_gt _ _ _ _ g, cmpL_gt _ _ _ _ g]; rfl

/-- Eight bytes, the highest first. -/
def be8 (v : Int) : List Int := [v / 72057594037927936 % 256, v / 281474976710656 % 256, v / 1099511627776 % 256, v / 4294967296 % 256, v / 16777216 % 256, v / 65536 % 256, v / 256 % 256, v % 256]
theorem be8_len (v : Int) : (be8 v).length = 8 := rfl
theorem be8_byt (v : Int) : Byt (be8 v) := by
  unfold be8
  repeat (first | exact Byt.nil | refine Byt.cons (by omega) (by omega) ?_)
theorem be8_lt (v w : Int) (v0 : 0 ≤ v) (w1 : w ≤ 18446744073709551615) (h : v < w) : cmpL (be8 v) (be8 w) = -1 := by
  unfold be8
  by_cases h7 : v / 72057594037927936 = w / 72057594037927936
  · rw [h7, cmpL_cons]
    by_cases h6 : v / 281474976710656 = w / 281474976710656
    · rw [h6, cmpL_cons]
      by_cases h5 : v / 1099511627776 = w / 1099511627776
      · rw [h5, cmpL_cons]
        by_cases h4 : v / 4294967296 = w / 4294967296
        · rw [h4, cmpL_cons]
          by_cases h3 : v / 16777216 = w / 16777216
          · rw [h3, cmpL_cons]
            by_cases h2 : v / 65536 = w / 65536
            · rw [h2, cmpL_cons]
              by_cases h1 : v / 256 = w / 256
              · rw [h1, cmpL_cons]
                exact cmpL_lt _ _ _ _ (by omega)
              · exact cmpL_lt _ _ _ _ (by omega)
            · exact cmpL_lt _ _ _ _ (by omega)
          · exact cmpL_lt _ _ _ _ (by omega)
        · exact cmpL_lt _ _ _ _ (by omega)
      · exact cmpL_lt _ _ _ _ (by omega)
    · exact cmpL_lt _ _ _ _ (by omega)
  · exact cmpL_lt _ _ _ _ (by omega)
/-- The number that so many bytes tell, behind one that was told. -/
def valF : Int → List Int → Int
  | v, [] => v
  | v, x :: s => valF (v * 256 + x) s
theorem val_be8 (v : Int) (h0 : 0 ≤ v) (h1 : v ≤ 18446744073709551615) : valF 0 (be8 v) = v := by
  simp only [be8, valF]
  omega
theorem be8_val (a b c d e f g h : Int) (H : Byt [a, b, c, d, e, f, g, h]) : be8 (valF 0 [a, b, c, d, e, f, g, h]) = [a, b, c, d, e, f, g, h] ∧ 0 ≤ valF 0 [a, b, c, d, e, f, g, h] ∧ valF 0 [a, b, c, d, e, f, g, h] ≤ 18446744073709551615 := by
  have ha := H a (by simp)
  have hb := H b (by simp)
  have hc := H c (by simp)
  have hd := H d (by simp)
  have he := H e (by simp)
  have hf := H f (by simp)
  have hg := H g (by simp)
  have hh := H h (by simp)
  simp only [be8, valF]
  refine ⟨?_, by omega, by omega⟩
  congr 1
  · omega
  · congr 1
    · omega
    · congr 1
      · omega
      · congr 1
        · omega
        · congr 1
          · omega
          · congr 1
            · omega
            · congr 1
              · omega
              · congr 1
                omega

/-- A part: a text or a number. -/
structure Pt where
  t : Bool
  num : Int
  text : List Int
instance : DecidableEq Pt := fun a b =>
  if h : a.t = b.t ∧ a.num = b.num ∧ a.text = b.text then isTrue (by
    obtain ⟨t, n, x⟩ := a
    obtain ⟨u, m, y⟩ := b
    obtain ⟨rfl, rfl, rfl⟩ := h
    rfl)
  else isFalse (fun e => h (by subst e; exact ⟨rfl, rfl, rfl⟩))

def esc : List Int → List Int
  | [] => []
  | x :: s => if x = 0 then 0 :: 255 :: esc s else x :: esc s
theorem esc_zero (s : List Int) : esc (0 :: s) = 0 :: 255 :: esc s := by simp [esc]
theorem esc_other {x : Int} (h : x ≠ 0) (s : List Int) : esc (x :: s) = x :: esc s := by simp [esc, h]
theorem esc_byt : ∀ {s : List Int}, Byt s → Byt (esc s)
  | [], _ => Byt.nil
  | x :: s, h => by
    by_cases e : x = 0
    · subst e; rw [esc_zero]; exact Byt.cons (by omega) (by omega) (Byt.cons (by omega) (by omega) (esc_byt h.tail))
    · rw [esc_other e]; exact Byt.cons h.head.1 h.head.2 (esc_byt h.tail)
theorem esc_cmp : ∀ (s t u v : List Int), Byt s → Byt t → cmpL (esc s ++ 0 :: 1 :: u) (esc t ++ 0 :: 1 :: v) = if cmpL s t ≠ 0 then cmpL s t else cmpL u v
  | [], [], u, v, _, _ => by
    simp only [esc, List.nil_append]
    rw [cmpL_cons, cmpL_cons]
    simp [cmpL]
  | [], y :: t, u, v, _, h => by
    by_cases e : y = 0
    · subst e
      rw [esc_zero]
      simp only [esc, List.nil_append, List.cons_append]
      rw [cmpL_cons, cmpL_lt _ _ _ _ (by omega)]
      simp [cmpL]
    · rw [esc_other e]
      simp only [esc, List.nil_append, List.cons_append]
      rw [cmpL_lt _ _ _ _ (by have := h.head; omega)]
      simp [cmpL]
  | x :: s, [], u, v, h, _ => by
    by_cases e : x = 0
    · subst e
      rw [esc_zero]
      simp only [esc, List.nil_append, List.cons_append]
      rw [cmpL_cons, cmpL_gt _ _ _ _ (by omega)]
      simp [cmpL]
    · rw [esc_other e]
      simp only [esc, List.nil_append, List.cons_append]
      rw [cmpL_gt _ _ _ _ (by have := h.head; omega)]
      simp [cmpL]
  | x :: s, y :: t, u, v, h, g => by
    have hx := h.head
    have hy := g.head
    by_cases e : x = 0
    · subst e
      by_cases f : y = 0
      · subst f
        rw [esc_zero, esc_zero]
        simp only [List.cons_append]
        rw [cmpL_cons, cmpL_cons, cmpL_cons]
        exact esc_cmp s t u v h.tail g.tail
      · rw [esc_zero, esc_other f]
        simp only [List.cons_append]
        rw [cmpL_lt _ _ _ _ (by omega), cmpL_lt _ _ _ _ (by omega)]
        rfl
    · by_cases f : y = 0
      · subst f
        rw [esc_zero, esc_other e]
        simp only [List.cons_append]
        rw [cmpL_gt _ _ _ _ (by omega), cmpL_gt _ _ _ _ (by omega)]
        rfl
      · rw [esc_other e, esc_other f]
        simp only [List.cons_append]
        rcases Int.lt_trichotomy x y with k | rfl | k
        · rw [cmpL_lt _ _ _ _ k, cmpL_lt _ _ _ _ k]; rfl
        · rw [cmpL_cons, cmpL_cons]; exact esc_cmp s t u v h.tail g.tail
        · rw [cmpL_gt _ _ _ _ k, cmpL_gt _ _ _ _ k]; rfl

/-- A part's form; a row's. -/
def ptL (p : Pt) : List Int := if p.t then 2 :: (esc p.text ++ [0, 1]) else 1 :: be8 ((p.num + 9223372036854775808) % 18446744073709551616)
def encL : List Pt → List Int
  | [] => []
  | p :: ps => ptL p ++ encL ps
theorem encL_append : ∀ (s t : List Pt), encL (s ++ t) = encL s ++ encL t
  | [], t => rfl
  | p :: s, t => by rw [List.cons_append, encL, encL, encL_append s t, List.append_assoc]
/-- A part whose bytes are bytes and whose number fits. -/
structure Pt.Fit (p : Pt) : Prop where
  text : Byt p.text
  lo : -9223372036854775808 ≤ p.num
  hi : p.num ≤ 9223372036854775807
/-- A part that can be written: of a text no number, of a number no text. -/
def Pt.Good (p : Pt) : Prop := if p.t then p.num = 0 else p.text = []
instance (p : Pt) : Decidable p.Good := by unfold Pt.Good; infer_instance
theorem ptL_byt (p : Pt) (h : p.Fit) : Byt (ptL p) := by
  unfold ptL
  split
  · exact Byt.cons (by omega) (by omega) ((esc_byt h.text).append (Byt.cons (by omega) (by omega) (Byt.cons (by omega) (by omega) Byt.nil)))
  · exact Byt.cons (by omega) (by omega) (be8_byt _)
theorem encL_byt : ∀ (ps : List Pt), (∀ p ∈ ps, p.Fit) → Byt (encL ps)
  | [], _ => Byt.nil
  | p :: ps, h => (ptL_byt p (h p (by simp))).append (encL_byt ps fun q hq => h q (List.mem_cons_of_mem _ hq))
theorem ptL_pos (p : Pt) : ∃ x s, ptL p = x :: s := by
  unfold ptL
  split
  · exact ⟨_, _, rfl⟩
  · exact ⟨_, _, rfl⟩

/-- Numbers in order. -/
def cmpI (a b : Int) : Int := if a < b then -1 else if b < a then 1 else 0
/-- Parts in order; rows in order. -/
def cmpP (p q : Pt) : Int := if p.t ≠ q.t then (if q.t then -1 else 1) else if p.t then cmpL p.text q.text else cmpI p.num q.num
def cmpR : List Pt → List Pt → Int
  | [], [] => 0
  | [], _ :: _ => -1
  | _ :: _, [] => 1
  | p :: ps, q :: qs => if cmpP p q ≠ 0 then cmpP p q else cmpR ps qs
theorem turned_cmp (a b : Int) (a0 : -9223372036854775808 ≤ a) (a1 : a ≤ 9223372036854775807) (b0 : -9223372036854775808 ≤ b) (b1 : b ≤ 9223372036854775807) :
    cmpL (be8 ((a + 9223372036854775808) % 18446744073709551616)) (be8 ((b + 9223372036854775808) % 18446744073709551616)) = cmpI a b := by
  have ea : (a + 9223372036854775808) % 18446744073709551616 = a + 9223372036854775808 := by omega
  have eb : (b + 9223372036854775808) % 18446744073709551616 = b + 9223372036854775808 := by omega
  rw [ea, eb]
  unfold cmpI
  rcases Int.lt_trichotomy a b with h | rfl | h
  · rw [if_pos h, be8_lt _ _ (by omega) (by omega) (by omega)]
  · rw [if_neg (by omega), if_neg (by omega), cmpL_self]
  · rw [if_neg (by omega), if_pos h, cmpL_flip, be8_lt _ _ (by omega) (by omega) (by omega)]; rfl
/-- Keys are ordered as bytes as their rows are. -/
theorem enc_cmp : ∀ (ps qs : List Pt), (∀ p ∈ ps, p.Fit) → (∀ p ∈ qs, p.Fit) → cmpL (encL ps) (encL qs) = cmpR ps qs
  | [], [], _, _ => rfl
  | [], q :: qs, _, _ => by
    obtain ⟨x, s, e⟩ := ptL_pos q
    rw [encL, encL, e]
    rfl
  | p :: ps, [], _, _ => by
    obtain ⟨x, s, e⟩ := ptL_pos p
    rw [encL, encL, e]
    rfl
  | p :: ps, q :: qs, hp, hq => by
    have ih := enc_cmp ps qs (fun r hr => hp r (List.mem_cons_of_mem _ hr)) (fun r hr => hq r (List.mem_cons_of_mem _ hr))
    have fp := hp p (by simp)
    have fq := hq q (by simp)
    rw [encL, encL, cmpR]
    unfold cmpP ptL
    cases ep : p.t <;> cases eq : q.t
    · simp only [Bool.false_eq_true, if_false, ne_eq, not_true_eq_false, List.cons_append]
      rw [cmpL_cons, cmpL_same (be8 ((p.num + 9223372036854775808) % 18446744073709551616)) (be8 ((q.num + 9223372036854775808) % 18446744073709551616)) (encL ps) (encL qs) rfl, turned_cmp _ _ fp.lo fp.hi fq.lo fq.hi, ih]
    · simp only [Bool.false_eq_true, if_false, if_true, ne_eq, List.cons_append]
      rw [cmpL_lt _ _ _ _ (by omega)]
      simp
    · simp only [Bool.false_eq_true, if_false, if_true, ne_eq, List.cons_append]
      rw [cmpL_gt _ _ _ _ (by omega)]
      simp
    · simp only [if_true, ne_eq, not_true_eq_false, List.cons_append, List.append_assoc, List.nil_append]
      rw [cmpL_cons, esc_cmp _ _ _ _ fp.text fq.text, ih]
      simp

/-- A text that is read: its bytes, what is behind it, the error. -/
def unesc : List Int → List Int × List Int × Int
  | [] => ([], [], 10)
  | [_] => ([], [], 10)
  | x :: y :: s =>
    if x ≠ 0 then (x :: (unesc (y :: s)).1, (unesc (y :: s)).2)
    else if y = 1 then ([], s, 0)
    else if y = 255 then (0 :: (unesc s).1, (unesc s).2)
    else ([], [], 11)
theorem unesc_other (x : Int) (h : x ≠ 0) : ∀ (s : List Int), (unesc (x :: s)).2 = (unesc s).2 ∧ ((unesc s).2.2 = 0 → (unesc (x :: s)).1 = x :: (unesc s).1)
  | [] => ⟨rfl, fun e => by simp [unesc] at e⟩
  | y :: s => by
    rw [unesc, if_pos h]
    exact ⟨rfl, fun _ => rfl⟩
theorem unesc_end (s : List Int) : unesc (0 :: 1 :: s) = ([], s, 0) := by simp [unesc]
theorem unesc_zero (s : List Int) : unesc (0 :: 255 :: s) = (0 :: (unesc s).1, (unesc s).2) := by simp [unesc]
theorem unesc_bad (y : Int) (s : List Int) (h1 : y ≠ 1) (h2 : y ≠ 255) : unesc (0 :: y :: s) = ([], [], 11) := by simp [unesc, h1, h2]
/-- What was written is read back. -/
theorem unesc_esc : ∀ (t u : List Int), unesc (esc t ++ 0 :: 1 :: u) = (t, u, 0)
  | [], u => by rw [esc]; exact unesc_end u
  | x :: t, u => by
    have ih := unesc_esc t u
    by_cases e : x = 0
    · subst e
      rw [esc_zero]
      simp only [List.cons_append]
      rw [unesc_zero, ih]
    · rw [esc_other e]
      simp only [List.cons_append]
      obtain ⟨h1, h2⟩ := unesc_other x e (esc t ++ 0 :: 1 :: u)
      rw [ih] at h1 h2
      exact Prod.ext (h2 rfl) h1
/-- What is read is written as it was. -/
theorem esc_unesc : ∀ (n : Nat) (L : List Int), L.length ≤ n → Byt L → (unesc L).2.2 = 0 → esc (unesc L).1 ++ 0 :: 1 :: (unesc L).2.1 = L ∧ Byt (unesc L).1 ∧ (unesc L).2.1.length < L.length
  | _, [], _, _, h => by simp [unesc] at h
  | _, [_], _, _, h => by simp [unesc] at h
  | 0, _ :: _ :: _, hl, _, _ => by simp at hl
  | n + 1, x :: y :: s, hl, hB, h => by
    have hl2 : s.length + 1 ≤ n := by simpa using hl
    by_cases e : x = 0
    · subst e
      by_cases f : y = 1
      · subst f
        rw [unesc_end]
        exact ⟨rfl, Byt.nil, by simp only [List.length_cons]; omega⟩
      · by_cases g : y = 255
        · subst g
          rw [unesc_zero] at h ⊢
          obtain ⟨i1, i2, i3⟩ := esc_unesc n s (by omega) hB.tail.tail h
          refine ⟨?_, Byt.cons (by omega) (by omega) i2, by simp; omega⟩
          show esc (0 :: (unesc s).1) ++ 0 :: 1 :: (unesc s).2.1 = _
          rw [esc_zero]
          simp only [List.cons_append]
          rw [i1]
        · rw [unesc_bad y s f g] at h
          simp at h
    · obtain ⟨h1, h2⟩ := unesc_other x e (y :: s)
      rw [h1] at h ⊢
      obtain ⟨i1, i2, i3⟩ := esc_unesc n (y :: s) (by simp; omega) hB.tail h
      rw [h2 h]
      refine ⟨?_, Byt.cons hB.head.1 hB.head.2 i2, by simp at i3 ⊢; omega⟩
      rw [esc_other e]
      simp only [List.cons_append]
      rw [i1]
theorem unesc_err : ∀ (n : Nat) (L : List Int), L.length ≤ n → (unesc L).2.2 = 0 ∨ (unesc L).2.2 = 10 ∨ (unesc L).2.2 = 11
  | _, [], _ => .inr (.inl rfl)
  | _, [_], _ => .inr (.inl rfl)
  | 0, _ :: _ :: _, hl => by simp at hl
  | n + 1, x :: y :: s, hl => by
    have hl2 : s.length + 1 ≤ n := by simpa using hl
    unfold unesc
    split
    · exact unesc_err n (y :: s) (by simp; omega)
    · split
      · exact .inl rfl
      · split
        · exact unesc_err n s (by omega)
        · exact .inr (.inr rfl)

theorem unesc_short : ∀ (n : Nat) (L : List Int), L.length ≤ n → (unesc L).2.1.length ≤ L.length
  | _, [], _ => by simp [unesc]
  | _, [_], _ => by simp [unesc]
  | 0, _ :: _ :: _, hl => by simp at hl
  | n + 1, x :: y :: s, hl => by
    have hl2 : s.length + 1 ≤ n := by simpa using hl
    unfold unesc
    split
    · have := unesc_short n (y :: s) (by simp; omega)
      simp at this ⊢
      omega
    · split
      · simp
        omega
      · split
        · have := unesc_short n s (by omega)
          simp
          omega
        · simp

/-- The parts that are read, and the first error, within so many parts. -/
def decF : Nat → List Int → List Pt × Int
  | _, [] => ([], 0)
  | 0, _ :: _ => ([], 0)
  | n + 1, x :: s =>
    if x = 1 then
      if s.length < 8 then ([], 10)
      else (⟨false, valF 0 (s.take 8) - 9223372036854775808, []⟩ :: (decF n (s.drop 8)).1, (decF n (s.drop 8)).2)
    else if x = 2 then
      if (unesc s).2.2 = 0 then (⟨true, 0, (unesc s).1⟩ :: (decF n (unesc s).2.1).1, (decF n (unesc s).2.1).2)
      else ([], (unesc s).2.2)
    else ([], 11)
/-- What was written is read back: parts. -/
theorem dec_enc : ∀ (ps : List Pt) (n : Nat), (∀ p ∈ ps, p.Fit ∧ p.Good) → (encL ps).length ≤ n → decF n (encL ps) = (ps, 0)
  | [], n, _, _ => by cases n <;> rfl
  | p :: ps, 0, _, h => by
    obtain ⟨x, s, e⟩ := ptL_pos p
    rw [encL, e] at h
    simp at h
  | p :: ps, n + 1, hp, h => by
    obtain ⟨hf, hg⟩ := hp p (by simp)
    obtain ⟨pt, pn, px⟩ := p
    unfold Pt.Good at hg
    rw [encL] at h ⊢
    unfold ptL at h ⊢
    cases pt
    · simp only [Bool.false_eq_true, if_false] at hg h ⊢
      subst hg
      simp only [List.cons_append, List.length_cons, List.length_append] at h
      have ih := dec_enc ps n (fun q hq => hp q (List.mem_cons_of_mem _ hq)) (by omega)
      have l8 := hf.lo
      have h8 := hf.hi
      simp only at l8 h8
      simp only [List.cons_append]
      rw [decF, if_pos rfl, if_neg (by rw [List.length_append, be8_len]; omega), List.take_left' (be8_len _), List.drop_left' (be8_len _), ih, val_be8 _ (by omega) (by omega)]
      simp only [Prod.mk.injEq, List.cons.injEq, Pt.mk.injEq, and_true, true_and]
      omega
    · simp only [if_true] at hg h ⊢
      subst hg
      simp only [List.cons_append, List.length_cons, List.length_append, List.append_assoc, List.nil_append] at h ⊢
      have ih := dec_enc ps n (fun q hq => hp q (List.mem_cons_of_mem _ hq)) (by omega)
      rw [decF, if_neg (by omega), if_pos rfl, unesc_esc, if_pos rfl, ih]
/-- What is read is written as it was: parts. -/
theorem enc_dec : ∀ (n : Nat) (L : List Int), L.length ≤ n → Byt L → (decF n L).2 = 0 → encL (decF n L).1 = L ∧ ∀ p ∈ (decF n L).1, p.Fit ∧ p.Good
  | n, [], _, _, _ => by cases n <;> exact ⟨rfl, fun _ h => by cases h⟩
  | 0, _ :: _, h, _, _ => by simp at h
  | n + 1, x :: s, hl, hB, he => by
    have hls : s.length ≤ n := by simpa using hl
    by_cases e1 : x = 1
    · subst e1
      rw [decF, if_pos rfl] at he ⊢
      by_cases h8 : s.length < 8
      · rw [if_pos h8] at he; simp at he
      · rw [if_neg h8] at he ⊢
        obtain ⟨i1, i2⟩ := enc_dec n (s.drop 8) (by simp; omega) (hB.tail.drop 8) he
        match s, h8, hB, hls, i1, i2 with
        | a :: b :: c :: d :: e :: f :: g :: h :: r, _, hB, _, i1, i2 =>
          have hB8 : Byt [a, b, c, d, e, f, g, h] := fun y hy => hB.tail y (by simp at hy ⊢; omega)
          obtain ⟨k1, k2, k3⟩ := be8_val a b c d e f g h hB8
          have ht : (a :: b :: c :: d :: e :: f :: g :: h :: r).take 8 = [a, b, c, d, e, f, g, h] := rfl
          rw [ht]
          refine ⟨?_, fun p hp => ?_⟩
          · rw [encL, i1]
            unfold ptL
            simp only [Bool.false_eq_true, if_false]
            rw [show (valF 0 [a, b, c, d, e, f, g, h] - 9223372036854775808 + 9223372036854775808) % 18446744073709551616 = valF 0 [a, b, c, d, e, f, g, h] by omega, k1]
            rfl
          · rcases List.mem_cons.1 hp with rfl | hp
            · exact ⟨⟨Byt.nil, by simp only; omega, by simp only; omega⟩, by simp [Pt.Good]⟩
            · exact i2 p hp
        | [], h8, _, _, _, _ | [_], h8, _, _, _, _ | [_, _], h8, _, _, _, _ | [_, _, _], h8, _, _, _, _ | [_, _, _, _], h8, _, _, _, _ | [_, _, _, _, _], h8, _, _, _, _ | [_, _, _, _, _, _], h8, _, _, _, _ | [_, _, _, _, _, _, _], h8, _, _, _, _ => simp at h8
    · by_cases e2 : x = 2
      · subst e2
        rw [decF, if_neg (by omega), if_pos rfl] at he ⊢
        by_cases hu : (unesc s).2.2 = 0
        · rw [if_pos hu] at he ⊢
          obtain ⟨j1, j2, j3⟩ := esc_unesc s.length s (Nat.le_refl _) hB.tail hu
          have hBr : Byt (unesc s).2.1 := fun y hy => hB.tail y (by rw [← j1]; simp [hy])
          obtain ⟨i1, i2⟩ := enc_dec n (unesc s).2.1 (by omega) hBr he
          refine ⟨?_, fun p hp => ?_⟩
          · rw [encL, i1]
            unfold ptL
            simp only [if_true, List.cons_append, List.append_assoc, List.nil_append]
            rw [j1]
          · rcases List.mem_cons.1 hp with rfl | hp
            · exact ⟨⟨j2, by simp only; omega, by simp only; omega⟩, by simp [Pt.Good]⟩
            · exact i2 p hp
        · rw [if_neg hu] at he
          exact absurd he hu
      · rw [decF, if_neg e1, if_neg e2] at he
        simp at he

/-- What Encode answers; what Decode answers. -/
def encP (ps : List Pt) : List Int × Int :=
  if 8 < ps.length then ([], 3)
  else if ∃ p ∈ ps, p.t = true ∧ 64 < p.text.length then ([], 3)
  else if ∃ p ∈ ps, ¬ p.Good then ([], 2)
  else if encL ps = [] ∨ 200 < (encL ps).length then ([], 30)
  else (encL ps, 0)
def decP (L : List Int) : List Pt × Int :=
  if (decF L.length L).2 ≠ 0 then ([], (decF L.length L).2)
  else if 8 < (decF L.length L).1.length ∨ ∃ p ∈ (decF L.length L).1, p.t = true ∧ 64 < p.text.length then ([], 3)
  else if L = [] ∨ 200 < L.length then ([], 30)
  else ((decF L.length L).1, 0)
theorem decP_encP (ps : List Pt) (hf : ∀ p ∈ ps, p.Fit) (h : (encP ps).2 = 0) : (encP ps).1 = encL ps ∧ decP (encL ps) = (ps, 0) := by
  unfold encP at h ⊢
  by_cases h1 : 8 < ps.length
  · rw [if_pos h1] at h; simp at h
  · rw [if_neg h1] at h ⊢
    by_cases h2 : ∃ p ∈ ps, p.t = true ∧ 64 < p.text.length
    · rw [if_pos h2] at h; simp at h
    · rw [if_neg h2] at h ⊢
      by_cases h3 : ∃ p ∈ ps, ¬ p.Good
      · rw [if_pos h3] at h; simp at h
      · rw [if_neg h3] at h ⊢
        by_cases h4 : encL ps = [] ∨ 200 < (encL ps).length
        · rw [if_pos h4] at h; simp at h
        · rw [if_neg h4]
          refine ⟨rfl, ?_⟩
          have hd := dec_enc ps (encL ps).length (fun p hp => ⟨hf p hp, Decidable.byContradiction fun g => h3 ⟨p, hp, g⟩⟩) (Nat.le_refl _)
          unfold decP
          rw [hd, if_neg (by simp), if_neg (fun g => g.elim h1 h2), if_neg h4]
theorem encP_decP (L : List Int) (hB : Byt L) (h : (decP L).2 = 0) : encP (decP L).1 = (L, 0) ∧ ∀ p ∈ (decP L).1, p.Fit := by
  unfold decP at h ⊢
  by_cases h1 : (decF L.length L).2 ≠ 0
  · rw [if_pos h1] at h; exact absurd h h1
  · rw [if_neg h1] at h ⊢
    by_cases h2 : 8 < (decF L.length L).1.length ∨ ∃ p ∈ (decF L.length L).1, p.t = true ∧ 64 < p.text.length
    · rw [if_pos h2] at h; simp at h
    · rw [if_neg h2] at h ⊢
      by_cases h3 : L = [] ∨ 200 < L.length
      · rw [if_pos h3] at h; simp at h
      · rw [if_neg h3]
        obtain ⟨e, hg⟩ := enc_dec L.length L (Nat.le_refl _) hB (Decidable.byContradiction h1)
        refine ⟨?_, fun p hp => (hg p hp).1⟩
        unfold encP
        show (if 8 < (decF L.length L).1.length then _ else _) = _
        rw [if_neg (fun g => h2 (.inl g)), if_neg (fun g => h2 (.inr g)), if_neg (fun ⟨p, hp, g⟩ => g (hg p hp).2), e, if_neg h3]

/-- What is above all that begin with some bytes. -/
def nextL : List Int → List Int
  | [] => []
  | x :: s => if nextL s ≠ [] then x :: nextL s else if x < 255 then [x + 1] else []
theorem next_over : ∀ (b m : List Int), nextL b ≠ [] → cmpL (b ++ m) (nextL b) = -1
  | [], _, h => absurd rfl h
  | x :: s, m, h => by
    unfold nextL at h ⊢
    by_cases e : nextL s ≠ []
    · rw [if_pos e]
      simp only [List.cons_append]
      rw [cmpL_cons]
      exact next_over s m e
    · rw [if_neg e] at h ⊢
      by_cases f : x < 255
      · rw [if_pos f]
        simp only [List.cons_append]
        exact cmpL_lt _ _ _ _ (by omega)
      · rw [if_neg f] at h
        exact absurd rfl h
/-- Bytes 255 alone are not passed but by what begins with them. -/
theorem full_prefix : ∀ (s m : List Int), Byt s → Byt m → nextL s = [] → 0 ≤ cmpL m s → s <+: m
  | [], m, _, _, _, _ => List.nil_prefix
  | x :: s, [], _, _, _, h => by simp [cmpL] at h
  | x :: s, y :: m, hs, hm, h, hc => by
    unfold nextL at h
    by_cases e : nextL s ≠ []
    · rw [if_pos e] at h; simp at h
    · rw [if_neg e] at h
      by_cases f : x < 255
      · rw [if_pos f] at h; simp at h
      · have hx := hs.head
        have hy := hm.head
        rcases Int.lt_trichotomy y x with g | rfl | g
        · rw [cmpL_lt _ _ _ _ g] at hc; simp at hc
        · rw [cmpL_cons] at hc
          exact List.cons_prefix_cons.2 ⟨rfl, full_prefix s m hs.tail hm.tail (Decidable.byContradiction e) hc⟩
        · omega
/-- Nothing lies between. -/
theorem next_least : ∀ (b m : List Int), Byt b → Byt m → nextL b ≠ [] → ¬ b <+: m → 0 ≤ cmpL m b → 0 ≤ cmpL m (nextL b)
  | [], _, _, _, h, _, _ => absurd rfl h
  | x :: s, [], _, _, _, _, hc => by simp [cmpL] at hc
  | x :: s, y :: m, hb, hm, h, hp, hc => by
    unfold nextL at h ⊢
    rcases Int.lt_trichotomy y x with g | rfl | g
    · rw [cmpL_lt _ _ _ _ g] at hc; simp at hc
    · rw [cmpL_cons] at hc
      have hp' : ¬ s <+: m := fun k => hp (List.cons_prefix_cons.2 ⟨rfl, k⟩)
      by_cases e : nextL s ≠ []
      · rw [if_pos e, cmpL_cons]
        exact next_least s m hb.tail hm.tail e hp' hc
      · exact absurd (full_prefix s m hb.tail hm.tail (Decidable.byContradiction e) hc) hp'
    · by_cases e : nextL s ≠ []
      · rw [if_pos e, cmpL_gt _ _ _ _ g]; decide
      · rw [if_neg e] at h ⊢
        by_cases f : x < 255
        · rw [if_pos f]
          by_cases k : y = x + 1
          · subst k
            rw [cmpL_cons]
            cases m with
            | nil => decide
            | cons z m => show (0 : Int) ≤ 1; decide
          · rw [cmpL_gt _ _ _ _ (by omega)]; decide
        · rw [if_neg f] at h
          exact absurd rfl h

end Go.Proofs.Ytaedhedbmbmdoaa
