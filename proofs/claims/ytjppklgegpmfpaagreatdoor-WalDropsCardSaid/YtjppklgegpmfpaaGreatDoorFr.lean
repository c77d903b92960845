/-
  Plain: frames: how a payload is put, read, and read one behind the other; what is turned is told. Nothing of the program.
-/
import Derived.Test.YtjppklgegpmfpaaGreatDoorCrc
import Derived.Test.YtjppklgegpmfpaaGreatDoorPlain
namespace Go.Proofs.YtjppklgegpmfpaaGreatDoor

/-- A number's four bytes, the lowest first; and back. -/
def fourL (v : Int) : List Int := [v % 256, v / 256 % 256, v / 65536 % 256, v / 16777216 % 256]
def numL : List Int → Int
  | a :: b :: c :: d :: _ => a + 256 * (b + 256 * (c + 256 * d))
  | _ => 0
theorem fourL_len (v : Int) : (fourL v).length = 4 := rfl
theorem fourL_byt (v : Int) : Byt (fourL v) := by
  unfold fourL
  repeat (first | exact Byt.nil | refine Byt.cons (by omega) (by omega) ?_)
theorem num_four (v : Int) (s : List Int) (h0 : 0 ≤ v) (h1 : v < 4294967296) : numL (fourL v ++ s) = v := by
  show v % 256 + 256 * (v / 256 % 256 + 256 * (v / 65536 % 256 + 256 * (v / 16777216 % 256))) = v
  omega
theorem four_num (a b c d : Int) (h : Byt [a, b, c, d]) : fourL (numL [a, b, c, d]) = [a, b, c, d] ∧ 0 ≤ numL [a, b, c, d] ∧ numL [a, b, c, d] < 4294967296 := by
  have ha := h a (by simp)
  have hb := h b (by simp)
  have hc := h c (by simp)
  have hd := h d (by simp)
  simp only [fourL, numL]
  refine ⟨?_, by omega, by omega⟩
  congr 1
  · omega
  · congr 1
    · omega
    · congr 1
      · omega
      · congr 1
        omega
theorem numL_in (L : List Int) (h : Byt L) : 0 ≤ numL L ∧ numL L < 4294967296 := by
  match L, h with
  | a :: b :: c :: d :: s, h =>
    have ha := h a (by simp)
    have hb := h b (by simp)
    have hc := h c (by simp)
    have hd := h d (by simp)
    simp only [numL]
    omega
  | [], _ | [_], _ | [_, _], _ | [_, _, _], _ => simp [numL]
theorem numL_take (L : List Int) : numL (L.take 4) = numL L := by
  match L with
  | a :: b :: c :: d :: s => rfl
  | [] | [_] | [_, _] | [_, _, _] => rfl

/-- A payload, put. -/
def putL (p : List Int) : List Int := fourL p.length ++ (fourL (sumL (fourL p.length ++ p)) ++ p)
theorem putL_len (p : List Int) : (putL p).length = 8 + p.length := by
  unfold putL
  simp only [List.length_append, fourL_len]
  omega
theorem putL_byt (p : List Int) (h : Byt p) : Byt (putL p) := (fourL_byt _).append ((fourL_byt _).append h)

/-- What is read of bytes: the payload, how many bytes, the error. -/
def readL (R : List Int) : List Int × Nat × Int :=
  if R = [] then ([], 0, 12)
  else if R.length < 8 then ([], 0, 10)
  else if 2097152 < numL R then ([], 0, 11)
  else if R.length - 8 < (numL R).toNat then ([], 0, 10)
  else if numL (R.drop 4) ≠ (sumL (R.take 4 ++ (R.drop 8).take (numL R).toNat) : Int) then ([], 0, 11)
  else ((R.drop 8).take (numL R).toNat, 8 + (numL R).toNat, 0)
/-- .. at a place. -/
def readP (L : List Int) (at_ : Int) : List Int × Int × Int :=
  if at_ < 0 ∨ (L.length : Int) < at_ then ([], 0, 2)
  else if (readL (L.drop at_.toNat)).2.2 = 0 then ((readL (L.drop at_.toNat)).1, at_ + (readL (L.drop at_.toNat)).2.1, 0)
  else ([], 0, (readL (L.drop at_.toNat)).2.2)
theorem readL_err (R : List Int) : (readL R).2.2 = 0 ∨ ((readL R).1 = [] ∧ (readL R).2.1 = 0 ∧ ((readL R).2.2 = 10 ∨ (readL R).2.2 = 11 ∨ (readL R).2.2 = 12)) := by
  unfold readL
  repeat' split
  all_goals simp
theorem readL_ok (R : List Int) (h : (readL R).2.2 = 0) : 8 ≤ (readL R).2.1 ∧ (readL R).2.1 ≤ R.length ∧ (readL R).2.1 = 8 + (readL R).1.length ∧ (readL R).1.length ≤ 2097152 ∧ (Byt R → Byt (readL R).1) := by
  unfold readL at h ⊢
  split at h
  · simp at h
  · split at h
    · simp at h
    · split at h
      · simp at h
      · split at h
        · simp at h
        · split at h
          · simp at h
          · next h1 h2 h3 h4 h5 =>
            rw [if_neg h1, if_neg h2, if_neg h3, if_neg h4, if_neg h5]
            refine ⟨by simp only; omega, by simp only; omega, ?_, ?_, fun hB => (hB.drop 8).take _⟩
            · simp only [List.length_take, List.length_drop]
              omega
            · simp only [List.length_take, List.length_drop]
              omega
/-- What was put is read back. -/
theorem readL_put (p R : List Int) (hB : Byt p) (hl : p.length ≤ 2097152) : readL (putL p ++ R) = (p, 8 + p.length, 0) := by
  have hlen : (putL p ++ R).length = 8 + p.length + R.length := by rw [List.length_append, putL_len]
  have hn : numL (putL p ++ R) = p.length := by
    unfold putL
    rw [List.append_assoc]
    exact num_four _ _ (by omega) (by omega)
  have hs := sumL_lt (fourL p.length ++ p) ((fourL_byt _).append hB)
  have e4 : (putL p ++ R).take 4 = fourL p.length := by
    unfold putL
    rw [List.append_assoc]
    exact List.take_left' rfl
  have d4 : (putL p ++ R).drop 4 = fourL (sumL (fourL p.length ++ p)) ++ (p ++ R) := by
    unfold putL
    rw [List.append_assoc, List.drop_left' (by rfl), List.append_assoc]
  have d8 : (putL p ++ R).drop 8 = p ++ R := by
    rw [show 8 = 4 + 4 by rfl, ← List.drop_drop, d4]
    exact List.drop_left' rfl
  have hnat : (numL (putL p ++ R)).toNat = p.length := by rw [hn]; omega
  unfold readL
  rw [if_neg (fun e => by rw [e] at hlen; simp at hlen; omega), if_neg (by omega), if_neg (by rw [hn]; omega), if_neg (by rw [hnat]; omega), hnat, e4, d8, List.take_left' rfl, if_neg]
  rw [d4, num_four _ _ (by omega) (by omega)]
  simp

/-- Frames, read from the first byte on: payloads, the place behind, the error. -/
def allF : Nat → List Int → List (List Int) × Nat × Int
  | _, [] => ([], 0, 0)
  | 0, _ :: _ => ([], 0, 0)
  | n + 1, x :: s =>
    if (readL (x :: s)).2.2 = 0 then ((readL (x :: s)).1 :: (allF n ((x :: s).drop (readL (x :: s)).2.1)).1, (readL (x :: s)).2.1 + (allF n ((x :: s).drop (readL (x :: s)).2.1)).2.1, (allF n ((x :: s).drop (readL (x :: s)).2.1)).2.2)
    else ([], 0, (readL (x :: s)).2.2)
theorem allF_fuel : ∀ (n m : Nat) (L : List Int), L.length ≤ n → L.length ≤ m → allF n L = allF m L
  | n, m, [], _, _ => by cases n <;> cases m <;> rfl
  | 0, _, _ :: _, h, _ => by simp at h
  | _, 0, _ :: _, _, h => by simp at h
  | n + 1, m + 1, x :: s, hn, hm => by
    rw [allF, allF]
    by_cases h : (readL (x :: s)).2.2 = 0
    · obtain ⟨h8, h9, -⟩ := readL_ok _ h
      have hd : ((x :: s).drop (readL (x :: s)).2.1).length ≤ s.length := by rw [List.length_drop]; simp only [List.length_cons]; omega
      have ih := allF_fuel n m _ (Nat.le_trans hd (by simpa using hn)) (Nat.le_trans hd (by simpa using hm))
      rw [if_pos h, if_pos h, ih]
    · rw [if_neg h, if_neg h]
def allL (L : List Int) : List (List Int) × Nat × Int := allF L.length L
theorem allL_nil : allL [] = ([], 0, 0) := rfl
theorem allL_ok (L : List Int) (hL : L ≠ []) (h : (readL L).2.2 = 0) : allL L = ((readL L).1 :: (allL (L.drop (readL L).2.1)).1, (readL L).2.1 + (allL (L.drop (readL L).2.1)).2.1, (allL (L.drop (readL L).2.1)).2.2) := by
  cases L with
  | nil => exact absurd rfl hL
  | cons x s =>
    obtain ⟨h8, h9, -⟩ := readL_ok _ h
    have hd : ((x :: s).drop (readL (x :: s)).2.1).length ≤ s.length := by rw [List.length_drop]; simp only [List.length_cons]; omega
    have ih := allF_fuel s.length ((x :: s).drop (readL (x :: s)).2.1).length _ hd (Nat.le_refl _)
    unfold allL
    simp only [List.length_cons]
    rw [allF, if_pos h, ih]
theorem allL_bad (L : List Int) (hL : L ≠ []) (h : (readL L).2.2 ≠ 0) : allL L = ([], 0, (readL L).2.2) := by
  cases L with
  | nil => exact absurd rfl hL
  | cons x s =>
    unfold allL
    simp only [List.length_cons]
    rw [allF, if_neg h]

/-- What a walk over frames has read, and what is left. -/
def LeftF (L : List Int) (T : List (List Int)) (at_ : Nat) : Prop := at_ ≤ L.length ∧ (allL L).1 = T ++ (allL (L.drop at_)).1 ∧ (allL L).2.1 = at_ + (allL (L.drop at_)).2.1 ∧ (allL L).2.2 = (allL (L.drop at_)).2.2
theorem LeftF.refl (L : List Int) : LeftF L [] 0 := ⟨by omega, rfl, by simp, rfl⟩
theorem LeftF.step {L : List Int} {T : List (List Int)} {at_ : Nat} (h : LeftF L T at_) (hl : at_ < L.length) (h0 : (readL (L.drop at_)).2.2 = 0) : LeftF L (T ++ [(readL (L.drop at_)).1]) (at_ + (readL (L.drop at_)).2.1) := by
  have hne : L.drop at_ ≠ [] := fun e => by have := congrArg List.length e; simp at this; omega
  obtain ⟨h8, h9, -⟩ := readL_ok _ h0
  obtain ⟨a, b, c, d⟩ := h
  have e := allL_ok _ hne h0
  rw [List.drop_drop] at e
  rw [e] at b c d
  refine ⟨by rw [List.length_drop] at h9; omega, ?_, ?_, d⟩
  · rw [b]; simp
  · rw [c]; simp only; omega
theorem LeftF.end_ {L : List Int} {T : List (List Int)} {at_ : Nat} (h : LeftF L T at_) (hl : L.length ≤ at_) : allL L = (T, at_, 0) := by
  obtain ⟨a, b, c, d⟩ := h
  rw [List.drop_of_length_le hl, allL_nil] at b c d
  exact Prod.ext (by simpa using b) (Prod.ext (by simpa using c) d)
theorem LeftF.bad {L : List Int} {T : List (List Int)} {at_ : Nat} (h : LeftF L T at_) (hl : at_ < L.length) (h0 : (readL (L.drop at_)).2.2 ≠ 0) : allL L = (T, at_, (readL (L.drop at_)).2.2) := by
  have hne : L.drop at_ ≠ [] := fun e => by have := congrArg List.length e; simp at this; omega
  obtain ⟨a, b, c, d⟩ := h
  rw [allL_bad _ hne h0] at b c d
  exact Prod.ext (by simpa using b) (Prod.ext (by simpa using c) d)

/-- Payloads, put one behind the other. -/
def flatL : List (List Int) → List Int
  | [] => []
  | p :: ps => putL p ++ flatL ps
theorem flatL_append : ∀ s t : List (List Int), flatL (s ++ t) = flatL s ++ flatL t
  | [], _ => rfl
  | p :: s, t => by rw [List.cons_append, flatL, flatL, flatL_append s t, List.append_assoc]
theorem putL_ne (p R : List Int) : putL p ++ R ≠ [] := fun e => by
  have := congrArg List.length e
  rw [List.length_append, putL_len] at this
  simp at this
theorem allL_put (p R : List Int) (hB : Byt p) (hl : p.length ≤ 2097152) : allL (putL p ++ R) = (p :: (allL R).1, (putL p).length + (allL R).2.1, (allL R).2.2) := by
  have h := readL_put p R hB hl
  rw [allL_ok _ (putL_ne p R) (by rw [h]), h]
  simp only
  rw [List.drop_left' (putL_len p), putL_len]
/-- Behind frames that are whole. -/
theorem allL_flat : ∀ (ps : List (List Int)) (R : List Int), (∀ p ∈ ps, Byt p ∧ p.length ≤ 2097152) → allL (flatL ps ++ R) = (ps ++ (allL R).1, (flatL ps).length + (allL R).2.1, (allL R).2.2)
  | [], R, _ => by simp [flatL]
  | p :: ps, R, h => by
    obtain ⟨hB, hl⟩ := h p (by simp)
    have ih := allL_flat ps R (fun q hq => h q (List.mem_cons_of_mem _ hq))
    rw [flatL, List.append_assoc, allL_put p _ hB hl, ih]
    simp only [List.length_append, List.cons_append]
    rw [Nat.add_assoc]
theorem allL_back (ps : List (List Int)) (h : ∀ p ∈ ps, Byt p ∧ p.length ≤ 2097152) : allL (flatL ps) = (ps, (flatL ps).length, 0) := by
  have := allL_flat ps [] h
  simpa [allL_nil] using this
theorem readL_few (R : List Int) (h0 : R ≠ []) (h : R.length < 8) : readL R = ([], 0, 10) := by
  unfold readL
  rw [if_neg h0, if_pos h]
theorem allL_behind (ps : List (List Int)) (R : List Int) (h : ∀ p ∈ ps, Byt p ∧ p.length ≤ 2097152) (h0 : R ≠ []) (h8 : R.length < 8) : allL (flatL ps ++ R) = (ps, (flatL ps).length, 10) := by
  have e := readL_few R h0 h8
  rw [allL_flat ps R h, allL_bad R h0 (by rw [e]; simp), e]
  simp

/-- A frame of which one byte is turned, none that tells a length, can't be read. -/
theorem readL_told (p R : List Int) (k : Nat) (y : Int) (hB : Byt p) (hl : p.length ≤ 2097152) (h4 : 4 ≤ k) (hk : k < 8 + p.length) (hy : 0 ≤ y ∧ y < 256) (hn : (putL p)[k]? ≠ some y) : readL ((putL p).set k y ++ R) = ([], 0, 11) := by
  obtain ⟨T, hT⟩ : ∃ T, (putL p).set k y ++ R = T := ⟨_, rfl⟩
  have hlen : T.length = 8 + p.length + R.length := by rw [← hT, List.length_append, List.length_set, putL_len]
  have e4 : T.take 4 = fourL p.length := by
    rw [← hT, List.take_append_of_le_length (by rw [List.length_set, putL_len]; omega), List.take_set_of_le h4]
    unfold putL
    exact List.take_left' rfl
  have hnum : numL T = p.length := by
    rw [← numL_take, e4, ← List.append_nil (fourL _), num_four _ _ (by omega) (by omega)]
  have hnat : (numL T).toNat = p.length := by rw [hnum]; omega
  rw [hT]
  unfold readL
  rw [if_neg (fun e => by rw [e] at hlen; simp at hlen; omega), if_neg (by omega), if_neg (by rw [hnum]; omega), if_neg (by rw [hnat]; omega), hnat, e4, if_pos]
  have hs := sumL_lt (fourL p.length ++ p) ((fourL_byt _).append hB)
  by_cases h8 : k < 8
  · obtain ⟨j, rfl⟩ : ∃ j, k = 4 + j := ⟨k - 4, by omega⟩
    have d8 : (T.drop 8).take p.length = p := by
      rw [← hT]
      unfold putL
      rw [List.set_append_right _ _ (by rw [fourL_len]; omega), fourL_len, Nat.add_sub_cancel_left, List.set_append_left _ _ (by rw [fourL_len]; omega), List.append_assoc, List.append_assoc,
        show 8 = 4 + 4 by rfl, ← List.drop_drop, List.drop_left' (by rfl), List.drop_left' (by rw [List.length_set]; rfl), List.take_left' rfl]
    have d4 : (T.drop 4).take 4 = (fourL (sumL (fourL p.length ++ p))).set j y := by
      rw [← hT]
      unfold putL
      rw [List.set_append_right _ _ (by rw [fourL_len]; omega), fourL_len, Nat.add_sub_cancel_left, List.set_append_left _ _ (by rw [fourL_len]; omega), List.append_assoc, List.append_assoc,
        List.drop_left' (by rfl), List.take_left' (by rw [List.length_set]; rfl)]
    rw [d8, ← numL_take, d4]
    intro e
    have hj : (fourL (sumL (fourL p.length ++ p)))[j]? ≠ some y := fun g => hn (by
      unfold putL
      rw [List.getElem?_append_right (by rw [fourL_len]; omega), fourL_len, Nat.add_sub_cancel_left, List.getElem?_append_left (by rw [fourL_len]; omega)]
      exact g)
    have hF := num_four (sumL (fourL p.length ++ p) : Int) [] (by omega) (by omega)
    rw [List.append_nil] at hF
    have hb := fourL_byt (sumL (fourL p.length ++ p) : Int)
    generalize hV : fourL (sumL (fourL p.length ++ p) : Int) = V at e hj hF hb
    match V, hV with
    | [a, b, c, d], _ =>
      have ha := hb a (by simp)
      have hb' := hb b (by simp)
      have hc := hb c (by simp)
      have hd := hb d (by simp)
      simp only [numL] at hF
      rcases (by omega : j = 0 ∨ j = 1 ∨ j = 2 ∨ j = 3) with rfl | rfl | rfl | rfl
      all_goals
        simp [numL] at e hj
        omega
  · obtain ⟨j, rfl⟩ : ∃ j, k = 8 + j := ⟨k - 8, by omega⟩
    have hj : j < p.length := by omega
    have d4 : (T.drop 4).take 4 = fourL (sumL (fourL p.length ++ p)) := by
      rw [← hT]
      unfold putL
      rw [List.set_append_right _ _ (by rw [fourL_len]; omega), fourL_len, List.set_append_right _ _ (by rw [fourL_len]; omega), List.append_assoc, List.append_assoc,
        List.drop_left' (by rfl), List.take_left' (by rfl)]
    have d8 : (T.drop 8).take p.length = p.set j y := by
      rw [← hT]
      unfold putL
      rw [List.set_append_right _ _ (by rw [fourL_len]; omega), fourL_len, List.set_append_right _ _ (by rw [fourL_len]; omega), fourL_len, show 8 + j - 4 - 4 = j by omega, List.append_assoc, List.append_assoc,
        show 8 = 4 + 4 by rfl, ← List.drop_drop, List.drop_left' (by rfl), List.drop_left' (by rfl), List.take_left' (by rw [List.length_set])]
    have hpj : p[j]? ≠ some y := fun g => hn (by
      unfold putL
      rw [List.getElem?_append_right (by rw [fourL_len]; omega), fourL_len, List.getElem?_append_right (by rw [fourL_len]; omega), fourL_len, show 8 + j - 4 - 4 = j by omega]
      exact g)
    rw [← numL_take, d4, d8]
    intro e
    have hF := num_four (sumL (fourL p.length ++ p) : Int) [] (by omega) (by omega)
    rw [List.append_nil] at hF
    rw [hF] at e
    have hx := List.getElem?_eq_getElem hj
    have e1 : p = p.take j ++ p[j] :: p.drop (j + 1) := by
      rw [← List.drop_eq_getElem_cons hj, List.take_append_drop]
    have e2 : p.set j y = p.take j ++ y :: p.drop (j + 1) := by rw [List.set_eq_take_append_cons_drop, if_pos hj]
    have hxy : p[j] ≠ y := fun g => hpj (by rw [hx, g])
    have key := sumL_turn (fourL p.length ++ p.take j) (p.drop (j + 1)) p[j] y (fun z hz => ((fourL_byt _).append (hB.take j)) z hz) (fun z hz => (hB.drop (j + 1)) z hz) (hB _ (List.getElem_mem hj)) hy hxy
    rw [List.append_assoc, List.append_assoc, ← e1, ← e2] at key
    exact key (by omega)
theorem allL_told (ps : List (List Int)) (p R : List Int) (k : Nat) (y : Int) (h : ∀ p ∈ ps, Byt p ∧ p.length ≤ 2097152) (hB : Byt p) (hl : p.length ≤ 2097152) (h4 : 4 ≤ k) (hk : k < 8 + p.length) (hy : 0 ≤ y ∧ y < 256) (hn : (putL p)[k]? ≠ some y) :
    allL (flatL ps ++ ((putL p).set k y ++ R)) = (ps, (flatL ps).length, 11) := by
  have e := readL_told p R k y hB hl h4 hk hy hn
  have hne : (putL p).set k y ++ R ≠ [] := fun g => by
    have := congrArg List.length g
    rw [List.length_append, List.length_set, putL_len] at this
    simp at this
  rw [allL_flat ps _ h, allL_bad _ hne (by rw [e]; simp), e]
  simp
theorem putL_nil : putL [] = [0, 0, 0, 0, 28, 223, 68, 33] := by decide +kernel

end Go.Proofs.YtjppklgegpmfpaaGreatDoor
