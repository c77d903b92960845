/-
  Plain: a byte of a table's file that is turned, an end that is cut off: the file is refused, or one block can't be read. Nothing of the program. Plain: a table's file turned or cut: what is told of it. Nothing of the program. Plain: what is answered of a table of which one block can't be read. Nothing of the program. Memory: rows that stand beside others.
-/
import Derived.Test.YtmgggddnfeojmaaGreatJT03
import Derived.Test.YtmgggddnfeojmaaGreatJT09
set_option linter.unusedSimpArgs false
set_option linter.unusedVariables false
namespace Go.Proofs.YtmgggddnfeojmaaGreat
/-- How a table's file is made up. -/
structure Parts (l : List Er) (size : Nat) (ps qs : List (List Er)) : Prop where
  cut : piecesE size l = ps
  qcut : piecesE 1024 (indexE ps) = qs
  flat : ps.flatten = l
  ok : ∀ p ∈ ps, PieceOk 1024 p ∧ ByL p
  ne : ps ≠ []
  qflat : qs.flatten = indexE ps
  qok : ∀ p ∈ qs, PieceOk 1024 p ∧ ByL p
  ql : qs.length ≤ l.length
  file : fileE l size = headT qs.length (lastE l) ++ (qs.flatMap frameE ++ ps.flatMap frameE)
  key : (lastE l).length ≤ 200 ∧ Byt (lastE l)
  ix : OrdL (indexE ps)
theorem pieces_few : ∀ (rs : List (List Er)), (∀ p ∈ rs, p ≠ []) → rs.length ≤ rs.flatten.length
  | [], _ => Nat.le_refl _
  | p :: rs, h => by
    have h3 := List.length_pos_iff.2 (h p (by simp))
    have h4 := pieces_few rs (fun q hq => h q (by simp [hq]))
    simp only [List.flatten_cons, List.length_append, List.length_cons]
    omega
theorem parts_of {l : List Er} {size : Nat} (ho : OrdL l) (hne : l ≠ []) (hB : ByL l) (h1 : 1 ≤ size) (h2 : size ≤ 1024) : ∃ ps qs, Parts l size ps qs := by
  obtain ⟨ps, hps⟩ : ∃ ps, piecesE size l = ps := ⟨_, rfl⟩
  have hflat : ps.flatten = l := hps ▸ pieces_flat h1 l.length l (Nat.le_refl _)
  have hok : ∀ p ∈ ps, PieceOk 1024 p := fun p hp => by
    obtain ⟨k1, k2, k3⟩ := pieces_ok h1 l.length l (Nat.le_refl _) ho p (hps ▸ hp)
    exact ⟨k1, by omega, k3⟩
  have hby : ∀ p ∈ ps, ByL p := fun p hp e he => hB e (by rw [← hflat]; exact List.mem_flatten.2 ⟨p, hp, he⟩)
  have hix := index_ord ps hok (by rw [hflat]; exact ho)
  have hib := index_byt hok hby (Nat.le_refl _)
  obtain ⟨qs, hqs⟩ : ∃ qs, piecesE 1024 (indexE ps) = qs := ⟨_, rfl⟩
  have hqf : qs.flatten = indexE ps := hqs ▸ pieces_flat (by decide) (indexE ps).length _ (Nat.le_refl _)
  have hqo : ∀ p ∈ qs, PieceOk 1024 p ∧ ByL p := fun p hp => ⟨pieces_ok (by decide) (indexE ps).length _ (Nat.le_refl _) hix p (hqs ▸ hp), fun e he => hib e (by rw [← hqf]; exact List.mem_flatten.2 ⟨p, hp, he⟩)⟩
  have hpl := pieces_few ps (fun p hp => (hok p hp).1)
  have hql := pieces_few qs (fun p hp => (hqo p hp).1.1)
  rw [hflat] at hpl
  rw [hqf] at hql
  have hlast : ∃ e, l.getLast? = some e ∧ e ∈ l := by
    cases h : l.getLast? with
    | none => exact absurd (List.getLast?_eq_none_iff.1 h) hne
    | some e => exact ⟨e, rfl, List.mem_of_getLast? h⟩
  obtain ⟨z, hz, hzm⟩ := hlast
  have hK : lastE l = z.1 := by unfold lastE; rw [hz]
  refine ⟨ps, qs, hps, hqs, hflat, fun p hp => ⟨hok p hp, hby p hp⟩, fun e => hne (by rw [← hflat, e]; rfl), hqf, hqo, ?_, by unfold fileE; rw [hps, hqs], by rw [hK]; exact ⟨(ho.good z hzm).1.2, (hB z hzm).1⟩, hix⟩
  have : (indexE ps).length = ps.length := by simp [indexE]
  omega
/-- A table whose head and index are read. -/
theorem open_of {l : List Er} {size : Nat} {ps qs : List (List Er)} {D : List Int} {h a : Int} (P : Parts l size ps qs) (hd : headP D = some ((qs.length : Int), lastE l, h)) (hi : idxP D qs.length h [] = some (indexE ps, a)) (hr : a + ((ps.flatMap frameE).length : Int) = D.length) : tableP D = some ⟨D, rowsE ps a, lastE l⟩ := by
  have k := rowsP_tell ps a D.length [] (fun p hp => (P.ok p hp).1) hr
  unfold tableP
  rw [hd]
  simp only [Int.toNat_natCast]
  rw [hi]
  simp only
  rw [if_neg (by simp only [not_or, Decidable.not_not]; exact ⟨fun e => P.ne (List.map_eq_nil_iff.1 e), P.ix⟩), k]
  rfl
theorem shut_of {qs : List (List Er)} {D : List Int} {K : List Int} {h : Int} (hd : headP D = some ((qs.length : Int), K, h)) (hi : idxP D qs.length h [] = none) : tableP D = none := by
  unfold tableP
  rw [hd]
  simp only [Int.toNat_natCast]
  rw [hi]
theorem rowsP_short : ∀ (ps : List (List Er)) (a end_ : Int) (acc : List Rw), (∀ p ∈ ps, PieceOk 1024 p) → end_ < a + ((ps.flatMap frameE).length : Int) → rowsP end_ (indexE ps) a acc = none
  | [], a, end_, acc, _, h => by
    simp only [List.flatMap_nil, List.length_nil] at h
    show rowsP end_ [] a acc = none
    unfold rowsP
    rw [if_neg (by omega)]
  | p :: ps, a, end_, acc, h, he => by
    simp only [List.flatMap_cons, List.length_append] at he
    show rowsP end_ (tellE p :: indexE ps) a acc = none
    unfold rowsP
    by_cases hf : a + ((frameE p).length : Int) ≤ end_
    · rw [rowP_tell (h p (by simp)) hf]
      exact rowsP_short ps _ _ _ (fun q hq => h q (by simp [hq])) (by simp only; omega)
    · have : rowP (tellE p) a end_ = none := by
        obtain ⟨h1, h2, h3, h4⟩ := h p (by simp)
        cases p with
        | nil => exact absurd rfl h1
        | cons e l =>
          have hl : (frameE (e :: l)).length ≤ 2097160 := by unfold frameE; rw [putL_len]; have := packE_len h2 h4; omega
          obtain ⟨n, hn⟩ : ∃ n, (e :: l).length = n := ⟨_, rfl⟩
          obtain ⟨f, hF⟩ : ∃ f, (frameE (e :: l)).length = f := ⟨_, rfl⟩
          rw [tellE_cons, hn, hF]
          rw [hn] at h2
          rw [hF] at hf hl
          have hn1 : 1 ≤ n := by rw [← hn]; simp
          have k1 := uintP_back [] (digs (f : Int)) (n : Int) (by omega) (by omega)
          simp only [List.nil_append, List.length_nil] at k1
          replace k1 : uintP (digs (n : Int) ++ digs (f : Int)) 0 = ((n : Int), ((digs (n : Int)).length : Int), 0) := by rw [show ((digs (n : Int)).length : Int) = ((0 : Nat) : Int) + ((digs (n : Int)).length : Int) by omega]; exact k1
          have k2 := uintP_back (digs (n : Int)) [] (f : Int) (by omega) (by omega)
          simp only [List.append_nil] at k2
          unfold rowP
          simp only
          rw [k1]
          simp only
          rw [k2]
          simp only [ne_eq, not_true_eq_false, false_or]
          rw [if_neg (by omega), if_pos (.inr (by omega))]
      rw [this]
/-- A frame, turned or cut. -/
theorem fRead_turn (B p R : List Int) (k : Nat) (y : Int) (hB : Byt p) (hl : p.length ≤ 2097152) (hk : k < 8 + p.length) (hy : 0 ≤ y ∧ y < 256) (hn : (putL p)[k]? ≠ some y) :
    (fReadP (B ++ ((putL p).set k y ++ R)) B.length).2.2 ≠ 0 ∨ ∃ n, n ≠ p.length ∧ n ≤ (p ++ R).length ∧ fReadP (B ++ ((putL p).set k y ++ R)) B.length = ((p ++ R).take n, ((B.length + (8 + n) : Nat) : Int), 0) := by
  have e : (B ++ ((putL p).set k y ++ R)).drop ((B.length : Int)).toNat = (putL p).set k y ++ R := by rw [Int.toNat_natCast, List.drop_left]
  unfold fReadP
  rw [if_neg (by simp only [List.length_append]; omega), e]
  by_cases h4 : k < 4
  · rcases readL_len p R k y hB hl h4 hy hn with h | ⟨n, h1, h2, h3⟩
    · left
      rw [if_neg h]
      exact h
    · right
      refine ⟨n, h1, h2, ?_⟩
      rw [h3]
      simp only [if_true]
      refine Prod.ext rfl (Prod.ext ?_ rfl)
      simp only
      omega
  · left
    rw [readL_told p R k y hB hl (by omega) hk hy hn]
    simp
theorem fRead_cut (B p : List Int) (j : Nat) (hl : p.length ≤ 2097152) (hj : j < 8 + p.length) : (fReadP (B ++ (putL p).take j) B.length).2.2 ≠ 0 := by
  have e : (B ++ (putL p).take j).drop ((B.length : Int)).toNat = (putL p).take j := by rw [Int.toNat_natCast, List.drop_left]
  have hlen : ((putL p).take j).length = j := by rw [List.length_take, putL_len]; omega
  have hr : (readL ((putL p).take j)).2.2 ≠ 0 := by
    unfold readL
    split
    · simp
    · split
      · simp
      · next h1 h2 =>
        have hnum : numL ((putL p).take j) = p.length := by
          rw [← numL_take, List.take_take, Nat.min_eq_left (by omega), numL_take]
          unfold putL
          exact num_four _ _ (by omega) (by omega)
        rw [if_neg (by rw [hnum]; omega), if_pos (by rw [hnum]; omega)]
        simp
  unfold fReadP
  rw [if_neg (by simp only [List.length_append]; omega), e, if_neg hr]
  exact hr
theorem take_more {P R : List Int} {n : Nat} (h : P.length ≤ n) (hn : n ≤ (P ++ R).length) (hne : n ≠ P.length) : ∃ X, X ≠ [] ∧ (P ++ R).take n = P ++ X := by
  rw [List.length_append] at hn
  refine ⟨R.take (n - P.length), fun e => ?_, ?_⟩
  · have := congrArg List.length e
    rw [List.length_take] at this
    simp only [List.length_nil] at this
    omega
  · rw [List.take_append, List.take_of_length_le h]
/-- What is read of the payload's place can't be unpacked. -/
theorem unpack_turn {l : List Er} {R : List Int} {n : Nat} (hB : Byt (packE l)) (hu : unpackE (packE l) = some l) (hn : n ≠ (packE l).length) (hle : n ≤ (packE l ++ R).length) : unpackE ((packE l ++ R).take n) = none := by
  by_cases h : n < (packE l).length
  · rw [List.take_append_of_le_length (by omega)]
    cases hs : unpackE ((packE l).take n) with
    | none => rfl
    | some l' =>
      have := unpackE_more (hB.take n) hs (R := (packE l).drop n) (fun e => by
        have := congrArg List.length e
        rw [List.length_drop] at this
        simp only [List.length_nil] at this
        omega)
      rw [List.take_append_drop, hu] at this
      cases this
  · obtain ⟨X, hX, e⟩ := take_more (by omega) hle hn
    rw [e]
    exact unpackE_more hB hu hX
theorem headQ_put (n : Nat) (K : List Int) (hn : (n : Int) ≤ 18446744073709551615) (hK : K.length ≤ 200) : headQ (digs (n : Int) ++ (digs K.length ++ K)) = some ((n : Int), K) := by
  obtain ⟨P, hP⟩ : ∃ P, digs (n : Int) ++ (digs K.length ++ K) = P := ⟨_, rfl⟩
  have k1 := uintP_back [] (digs K.length ++ K) (n : Int) (by omega) hn
  simp only [List.nil_append, List.length_nil] at k1
  rw [hP] at k1
  replace k1 : uintP P 0 = ((n : Int), ((digs (n : Int)).length : Int), 0) := by rw [show ((digs (n : Int)).length : Int) = ((0 : Nat) : Int) + ((digs (n : Int)).length : Int) by omega]; exact k1
  have k2 := bytesP_most (digs (n : Int)) K [] 200 (by omega) (by omega)
  simp only [List.append_nil] at k2
  rw [hP] at k2
  rw [hP]
  unfold headQ
  rw [k1]
  simp only [ne_eq, not_true_eq_false, if_false]
  rw [k2]
  simp only [not_true_eq_false, if_false]
  rw [if_neg (by simp only [Decidable.not_not]; rw [← hP]; simp only [List.length_append]; omega)]
theorem headQ_turn {Q R : List Int} {n : Nat} {x : Int × List Int} (hB : Byt Q) (hu : headQ Q = some x) (hn : n ≠ Q.length) (hle : n ≤ (Q ++ R).length) : headQ ((Q ++ R).take n) = none := by
  by_cases h : n < Q.length
  · rw [List.take_append_of_le_length (by omega)]
    cases hs : headQ (Q.take n) with
    | none => rfl
    | some l' =>
      have := headQ_more (hB.take n) hs (R := Q.drop n) (fun e => by
        have := congrArg List.length e
        rw [List.length_drop] at this
        simp only [List.length_nil] at this
        omega)
      rw [List.take_append_drop, hu] at this
      cases this
  · obtain ⟨X, hX, e⟩ := take_more (by omega) hle hn
    rw [e]
    exact headQ_more hB hu hX
theorem tableP_none {D : List Int} (h : headP D = none) : tableP D = none := by
  unfold tableP
  rw [h]
/-- The head turned, cut. -/
theorem head_turn (n : Nat) (K R : List Int) (k : Nat) (y : Int) (hn : (n : Int) ≤ 18446744073709551615) (hK : K.length ≤ 200) (hB : Byt K) (hk : k < (headT n K).length) (hy : 0 ≤ y ∧ y < 256) (hd : (headT n K)[k]? ≠ some y) : headP ((headT n K).set k y ++ R) = none := by
  obtain ⟨P, hP⟩ : ∃ P, digs (n : Int) ++ (digs K.length ++ K) = P := ⟨_, rfl⟩
  have hdl := digs_len (n : Int)
  have hkl := digs_len K.length
  have hPl : P.length ≤ 2097152 := by rw [← hP]; simp only [List.length_append]; omega
  have hPB : Byt P := by rw [← hP]; exact (digs_byt _ (by omega) hn).append ((digs_byt _ (by omega) (by omega)).append hB)
  have hq := headQ_put n K hn hK
  rw [hP] at hq
  have e0 : headT n K = putL P := by unfold headT; rw [hP]
  rw [e0] at hk hd ⊢
  rw [putL_len] at hk
  rw [headP_Q]
  have := fRead_turn [] P R k y hPB hPl hk hy hd
  simp only [List.nil_append, List.length_nil] at this
  rcases this with h | ⟨m, h1, h2, h3⟩
  · replace h : (fReadP ((putL P).set k y ++ R) 0).2.2 ≠ 0 := h
    rw [if_pos h]
  · replace h3 : fReadP ((putL P).set k y ++ R) 0 = ((P ++ R).take m, ((0 + (8 + m) : Nat) : Int), 0) := h3
    rw [h3]
    simp only [ne_eq, not_true_eq_false, if_false]
    rw [headQ_turn hPB hq h1 h2]
set_option maxRecDepth 100000 in
theorem head_cut (n : Nat) (K : List Int) (k : Nat) (hn : (n : Int) ≤ 18446744073709551615) (hK : K.length ≤ 200) (hk : k < (headT n K).length) : headP ((headT n K).take k) = none := by
  obtain ⟨P, hP⟩ : ∃ P, digs (n : Int) ++ (digs K.length ++ K) = P := ⟨_, rfl⟩
  have hdl := digs_len (n : Int)
  have hkl := digs_len K.length
  have hPl : P.length ≤ 2097152 := by rw [← hP]; simp only [List.length_append]; omega
  have e0 : headT n K = putL P := by unfold headT; rw [hP]
  rw [e0] at hk ⊢
  rw [putL_len] at hk
  have this := fRead_cut [] P k hPl hk
  simp only [List.nil_append, List.length_nil] at this
  replace this : (fReadP ((putL P).take k) 0).2.2 ≠ 0 := this
  rw [headP_Q, if_pos this]
set_option maxRecDepth 100000 in
/-- The index turned, cut. -/
theorem idx_turn : ∀ (qs : List (List Er)) (q : List Er) (rs : List (List Er)) (B R : List Int) (acc : List Er) (k : Nat) (y : Int), (∀ p ∈ qs ++ q :: rs, PieceOk 1024 p ∧ ByL p) → k < (frameE q).length → (0 ≤ y ∧ y < 256) → (frameE q)[k]? ≠ some y →
    idxP (B ++ (qs.flatMap frameE ++ ((frameE q).set k y ++ R))) (qs ++ q :: rs).length B.length acc = none
  | [], q, rs, B, R, acc, k, y, h, hk, hy, hd => by
    obtain ⟨⟨h1, h2, h3, h4⟩, hB⟩ := h q (by simp)
    have hpb := packE_byt h3 (by omega) hB
    have hpl := packE_len h2 h4
    have hu := unpackE_pack h3 (by omega)
    have hk' : k < 8 + (packE q).length := by unfold frameE at hk; rwa [putL_len] at hk
    simp only [List.nil_append, List.flatMap_nil, List.length_cons]
    unfold idxP
    rcases fRead_turn B (packE q) R k y hpb hpl hk' hy hd with e | ⟨n, e1, e2, e3⟩
    · replace e : (fReadP (B ++ ((frameE q).set k y ++ R)) B.length).2.2 ≠ 0 := e
      rw [if_pos e]
    · have e3' : fReadP (B ++ ((frameE q).set k y ++ R)) B.length = _ := e3
      rw [e3']
      simp only [ne_eq, not_true_eq_false, if_false]
      rw [unpack_turn hpb hu e1 e2]
  | p :: qs, q, rs, B, R, acc, k, y, h, hk, hy, hd => by
    obtain ⟨⟨h1, h2, h3, h4⟩, hB⟩ := h p (by simp)
    obtain ⟨k1, k2⟩ := frame_read B (qs.flatMap frameE ++ ((frameE q).set k y ++ R)) h3 h2 h4 hB
    have e1 : B ++ ((p :: qs).flatMap frameE ++ ((frameE q).set k y ++ R)) = B ++ (frameE p ++ (qs.flatMap frameE ++ ((frameE q).set k y ++ R))) := by simp
    have e2 : B ++ ((p :: qs).flatMap frameE ++ ((frameE q).set k y ++ R)) = (B ++ frameE p) ++ (qs.flatMap frameE ++ ((frameE q).set k y ++ R)) := by simp
    have ih := idx_turn qs q rs (B ++ frameE p) R (acc ++ p) k y (fun x hx => h x (by simp only [List.cons_append, List.mem_cons]; exact .inr hx)) hk hy hd
    rw [← e1] at k1
    rw [← e2] at ih
    rw [List.cons_append, List.length_cons]
    unfold idxP
    rw [k1]
    simp only [ne_eq, not_true_eq_false, if_false]
    rw [k2]
    exact ih
set_option maxRecDepth 100000 in
theorem idx_cut : ∀ (qs : List (List Er)) (q : List Er) (rs : List (List Er)) (B : List Int) (acc : List Er) (j : Nat), (∀ p ∈ qs ++ q :: rs, PieceOk 1024 p ∧ ByL p) → j < (frameE q).length →
    idxP (B ++ (qs.flatMap frameE ++ (frameE q).take j)) (qs ++ q :: rs).length B.length acc = none
  | [], q, rs, B, acc, j, h, hj => by
    obtain ⟨⟨h1, h2, h3, h4⟩, hB⟩ := h q (by simp)
    have hpl := packE_len h2 h4
    have hj' : j < 8 + (packE q).length := by unfold frameE at hj; rwa [putL_len] at hj
    simp only [List.nil_append, List.flatMap_nil, List.length_cons]
    unfold idxP
    have this : (fReadP (B ++ (frameE q).take j) B.length).2.2 ≠ 0 := fRead_cut B (packE q) j hpl hj'
    rw [if_pos this]
  | p :: qs, q, rs, B, acc, j, h, hj => by
    obtain ⟨⟨h1, h2, h3, h4⟩, hB⟩ := h p (by simp)
    obtain ⟨k1, k2⟩ := frame_read B (qs.flatMap frameE ++ (frameE q).take j) h3 h2 h4 hB
    have e1 : B ++ ((p :: qs).flatMap frameE ++ (frameE q).take j) = B ++ (frameE p ++ (qs.flatMap frameE ++ (frameE q).take j)) := by simp
    have e2 : B ++ ((p :: qs).flatMap frameE ++ (frameE q).take j) = (B ++ frameE p) ++ (qs.flatMap frameE ++ (frameE q).take j) := by simp
    have ih := idx_cut qs q rs (B ++ frameE p) (acc ++ p) j (fun x hx => h x (by simp only [List.cons_append, List.mem_cons]; exact .inr hx)) hj
    rw [← e1] at k1
    rw [← e2] at ih
    rw [List.cons_append, List.length_cons]
    unfold idxP
    rw [k1]
    simp only [ne_eq, not_true_eq_false, if_false]
    rw [k2]
    exact ih
/-- Where a place lies in frames, one behind the other. -/
theorem frame_place : ∀ (ps : List (List Er)) (k : Nat), k < (ps.flatMap frameE).length → ∃ qs p rs j, ps = qs ++ p :: rs ∧ k = (qs.flatMap frameE).length + j ∧ j < (frameE p).length
  | [], k, h => by simp at h
  | p :: ps, k, h => by
    simp only [List.flatMap_cons, List.length_append] at h
    by_cases hk : k < (frameE p).length
    · exact ⟨[], p, ps, k, rfl, by simp, hk⟩
    · obtain ⟨qs, q, rs, j, h1, h2, h3⟩ := frame_place ps (k - (frameE p).length) (by omega)
      refine ⟨p :: qs, q, rs, j, by rw [h1]; rfl, ?_, h3⟩
      simp only [List.flatMap_cons, List.length_append]
      omega
end Go.Proofs.YtmgggddnfeojmaaGreat
namespace Go.Proofs.YtmgggddnfeojmaaGreat
theorem parts_get {l : List Er} {size i : Nat} {ps qs : List (List Er)} {p : List Er} (P : Parts l size ps qs) (hp : ps[i]? = some p) : PieceOk 1024 p ∧ ByL p := P.ok p (List.mem_of_getElem? hp)
/-- A block fits its row, whatever the bytes. -/
theorem fits_of {l : List Er} {size i : Nat} {ps qs : List (List Er)} {p : List Er} (P : Parts l size ps qs) (ho : OrdL l) (hp : ps[i]? = some p) (D : List Int) (a b c : Int) : fitsP ⟨D, rowsE ps a, lastE l⟩ i ⟨((tellE p).1, (tellE p).2.1, false, []), (p.length : Int), b, c⟩ p = true := by
  obtain ⟨⟨k1, k2, k3, k4⟩, -⟩ := parts_get P hp
  have hi' := (List.getElem?_eq_some_iff.1 hp).1
  obtain ⟨x, hx⟩ : ∃ x, p.head? = some x := by
    cases p with
    | nil => exact absurd rfl k1
    | cons x m => exact ⟨x, rfl⟩
  obtain ⟨y, hy⟩ : ∃ y, p.getLast? = some y := by
    cases h : p.getLast? with
    | none => exact absurd (List.getLast?_eq_none_iff.1 h) k1
    | some y => exact ⟨y, rfl⟩
  have eps : ps = ps.take i ++ p :: ps.drop (i + 1) := by
    have := List.drop_eq_getElem_cons hi'
    rw [(List.getElem?_eq_some_iff.1 hp).2] at this
    rw [← this, List.take_append_drop]
  unfold fitsP
  simp only [hx, hy]
  rw [ord_first hx, ordE_self]
  simp only [decide_true, Bool.true_and]
  by_cases hn : i + 1 < ps.length
  · obtain ⟨q, hq⟩ : ∃ q, ps[i + 1]? = some q := ⟨_, List.getElem?_eq_getElem hn⟩
    rw [rowsE_get ps a (i + 1) q hq]
    simp only [decide_eq_true_eq]
    obtain ⟨v, hv⟩ : ∃ v, q.head? = some v := by
      cases q with
      | nil => exact absurd rfl (parts_get P hq).1.1
      | cons v m => exact ⟨v, rfl⟩
    rw [ord_first hv]
    have eps2 : ps.drop (i + 1) = q :: ps.drop (i + 1 + 1) := by
      have := List.drop_eq_getElem_cons hn
      rwa [(List.getElem?_eq_some_iff.1 hq).2] at this
    have hfl : OrdL ((ps.take i).flatten ++ (p ++ (q ++ (ps.drop (i + 1 + 1)).flatten))) := by
      have h5 : ps.flatten = (ps.take i).flatten ++ (p ++ (q ++ (ps.drop (i + 1 + 1)).flatten)) := by
        conv => lhs; rw [eps, eps2]
        simp
      rw [← h5, P.flat]
      exact ho
    have h6 := (OrdL.split hfl).2
    rw [List.getLast?_eq_getElem?] at hy
    have hpl2 := List.length_pos_iff.2 k1
    refine ordL_sorted h6 (i := p.length - 1) (j := p.length) (by omega) ?_ ?_
    · rw [List.getElem?_append_left (by omega)]; exact hy
    · rw [List.getElem?_append_right (Nat.le_refl _), Nat.sub_self]
      cases q with
      | nil => cases hv
      | cons v' m => simpa using hv
  · have hrn : (rowsE ps a)[i + 1]? = none := by rw [List.getElem?_eq_none_iff, rowsE_len]; omega
    rw [hrn]
    simp only [decide_eq_true_eq]
    have hpl3 : ps.getLast? = some p := by
      rw [List.getLast?_eq_getElem?, show ps.length - 1 = i by omega]
      exact hp
    have := last_flat ps p y (fun q hq => (P.ok q hq).1.1) hpl3 hy
    rw [P.flat] at this
    unfold lastE
    rw [this]
/-- A block whose frame stands where its row says. -/
theorem block_at {l : List Er} {size i : Nat} {ps qs : List (List Er)} {p : List Er} (P : Parts l size ps qs) (ho : OrdL l) (hp : ps[i]? = some p) (B R : List Int) (a : Int) (hB : (B.length : Int) = a + (((ps.take i).flatMap frameE).length : Int)) : blockP ⟨B ++ (frameE p ++ R), rowsE ps a, lastE l⟩ i = some p := by
  obtain ⟨⟨k1, k2, k3, k4⟩, hby⟩ := parts_get P hp
  obtain ⟨m1, m2⟩ := frame_read B R k3 k2 k4 hby
  have hg := rowsE_get ps a i p hp
  unfold blockP
  simp only
  rw [hg]
  simp only
  rw [← hB, m1]
  simp only [ne_eq, not_true_eq_false, false_or]
  rw [if_neg (by simp only [Decidable.not_not, List.length_append]; omega), m2]
  simp only
  rw [if_pos (fits_of P ho hp _ a _ _)]
set_option maxRecDepth 100000 in
theorem block_turn {l : List Er} {size i k : Nat} {y : Int} {ps qs : List (List Er)} {p : List Er} (P : Parts l size ps qs) (hp : ps[i]? = some p) (B R : List Int) (a : Int) (hB : (B.length : Int) = a + (((ps.take i).flatMap frameE).length : Int)) (hk : k < (frameE p).length) (hy : 0 ≤ y ∧ y < 256) (hd : (frameE p)[k]? ≠ some y) : blockP ⟨B ++ ((frameE p).set k y ++ R), rowsE ps a, lastE l⟩ i = none := by
  obtain ⟨⟨k1, k2, k3, k4⟩, hby⟩ := parts_get P hp
  have hpb := packE_byt k3 (by omega) hby
  have hpl := packE_len k2 k4
  have hk' : k < 8 + (packE p).length := by unfold frameE at hk; rwa [putL_len] at hk
  have hg := rowsE_get ps a i p hp
  unfold blockP
  simp only
  rw [hg]
  simp only
  rw [← hB, if_pos]
  have hfl : (frameE p).length = 8 + (packE p).length := by unfold frameE; rw [putL_len]
  rcases fRead_turn B (packE p) R k y hpb hpl hk' hy hd with e | ⟨n, e1, e2, e3⟩
  · replace e : (fReadP (B ++ ((frameE p).set k y ++ R)) B.length).2.2 ≠ 0 := e
    exact .inl e
  · right
    have e3' : fReadP (B ++ ((frameE p).set k y ++ R)) B.length = _ := e3
    rw [e3', hfl]
    simp only
    omega
/-- An end that is cut off. -/
theorem told_cut {l : List Er} {size k : Nat} {ps qs : List (List Er)} (P : Parts l size ps qs) (hl : l.length ≤ 9000000000000000000) (hk : k < (fileE l size).length) : tableP ((fileE l size).take k) = none := by
  have hql := P.ql
  rw [P.file] at hk ⊢
  by_cases h1 : k < (headT qs.length (lastE l)).length
  · rw [List.take_append_of_le_length (by omega)]
    exact tableP_none (head_cut _ _ _ (by omega) P.key.1 h1)
  · obtain ⟨j, rfl⟩ : ∃ j, k = (headT qs.length (lastE l)).length + j := ⟨k - (headT qs.length (lastE l)).length, by omega⟩
    rw [List.length_append, List.length_append] at hk
    rw [List.take_length_add_append]
    by_cases h2 : j < (qs.flatMap frameE).length
    · rw [List.take_append_of_le_length (by omega)]
      obtain ⟨us, q, rs, i, e1, e2, e3⟩ := frame_place qs j h2
      have hd := headP_put qs.length (lastE l) ((qs.flatMap frameE).take j) (by omega) P.key.1 P.key.2
      have et : (qs.flatMap frameE).take j = us.flatMap frameE ++ (frameE q).take i := by
        rw [e2]
        conv => lhs; rw [e1]
        rw [List.flatMap_append, List.take_length_add_append, List.flatMap_cons, List.take_append_of_le_length (by omega)]
      refine shut_of hd ?_
      rw [et, e1]
      exact idx_cut us q rs (headT (us ++ q :: rs).length (lastE l)) [] i (by rw [← e1]; exact P.qok) e3
    · obtain ⟨i, rfl⟩ : ∃ i, j = (qs.flatMap frameE).length + i := ⟨j - (qs.flatMap frameE).length, by omega⟩
      rw [List.take_length_add_append]
      have hd := headP_put qs.length (lastE l) (qs.flatMap frameE ++ (ps.flatMap frameE).take i) (by omega) P.key.1 P.key.2
      have hi := idxP_put qs (headT qs.length (lastE l)) ((ps.flatMap frameE).take i) [] P.qok
      rw [P.qflat, List.nil_append] at hi
      have hr := rowsP_short ps ((headT qs.length (lastE l) ++ qs.flatMap frameE).length : Int) (headT qs.length (lastE l) ++ (qs.flatMap frameE ++ (ps.flatMap frameE).take i)).length [] (fun p hp => (P.ok p hp).1) (by simp only [List.length_append, List.length_take]; omega)
      unfold tableP
      rw [hd]
      simp only [Int.toNat_natCast]
      rw [hi]
      simp only
      rw [if_neg (by simp only [not_or, Decidable.not_not]; exact ⟨fun e => P.ne (List.map_eq_nil_iff.1 e), P.ix⟩), hr]
/-- A byte that is turned. -/
theorem told_turn {l : List Er} {size k : Nat} {y : Int} {ps qs : List (List Er)} (P : Parts l size ps qs) (ho : OrdL l) (hl : l.length ≤ 9000000000000000000) (hk : k < (fileE l size).length) (hy : 0 ≤ y ∧ y < 256) (hd : (fileE l size)[k]? ≠ some y) :
    tableP ((fileE l size).set k y) = none ∨ ∃ (a : Int) (j : Nat), j < ps.length ∧ tableP ((fileE l size).set k y) = some ⟨(fileE l size).set k y, rowsE ps a, lastE l⟩ ∧ (∀ i p, i ≠ j → ps[i]? = some p → blockP ⟨(fileE l size).set k y, rowsE ps a, lastE l⟩ i = some p) ∧ blockP ⟨(fileE l size).set k y, rowsE ps a, lastE l⟩ j = none := by
  have hql := P.ql
  rw [P.file] at hk hd ⊢
  by_cases h1 : k < (headT qs.length (lastE l)).length
  · left
    rw [List.set_append_left _ _ h1]
    rw [List.getElem?_append_left h1] at hd
    exact tableP_none (head_turn _ _ _ k y (by omega) P.key.1 P.key.2 h1 hy hd)
  · obtain ⟨j, rfl⟩ : ∃ j, k = (headT qs.length (lastE l)).length + j := ⟨k - (headT qs.length (lastE l)).length, by omega⟩
    rw [List.length_append, List.length_append] at hk
    rw [List.getElem?_append_right (by omega), Nat.add_sub_cancel_left] at hd
    rw [List.set_append_right _ _ (by omega), Nat.add_sub_cancel_left]
    by_cases h2 : j < (qs.flatMap frameE).length
    · left
      rw [List.getElem?_append_left h2] at hd
      rw [List.set_append_left _ _ h2]
      obtain ⟨us, q, rs, i, e1, e2, e3⟩ := frame_place qs j h2
      have e4 : qs.flatMap frameE = us.flatMap frameE ++ (frameE q ++ rs.flatMap frameE) := by rw [e1, List.flatMap_append, List.flatMap_cons]
      have et : (qs.flatMap frameE).set j y = us.flatMap frameE ++ ((frameE q).set i y ++ rs.flatMap frameE) := by
        rw [e4, e2, List.set_append_right _ _ (by omega), Nat.add_sub_cancel_left, List.set_append_left _ _ e3]
      rw [e4, e2, List.getElem?_append_right (by omega), Nat.add_sub_cancel_left, List.getElem?_append_left e3] at hd
      have hh := headP_put qs.length (lastE l) ((qs.flatMap frameE).set j y ++ ps.flatMap frameE) (by omega) P.key.1 P.key.2
      refine shut_of hh ?_
      rw [et]
      have := idx_turn us q rs (headT qs.length (lastE l)) (rs.flatMap frameE ++ ps.flatMap frameE) [] i y (by rw [← e1]; exact P.qok) e3 hy hd
      rw [← e1] at this
      simpa only [List.append_assoc] using this
    · right
      obtain ⟨i, rfl⟩ : ∃ i, j = (qs.flatMap frameE).length + i := ⟨j - (qs.flatMap frameE).length, by omega⟩
      rw [List.getElem?_append_right (by omega), Nat.add_sub_cancel_left] at hd
      rw [List.set_append_right _ _ (by omega), Nat.add_sub_cancel_left]
      obtain ⟨us, p, rs, m, e1, e2, e3⟩ := frame_place ps i (by omega)
      have e4 : ps.flatMap frameE = us.flatMap frameE ++ (frameE p ++ rs.flatMap frameE) := by rw [e1, List.flatMap_append, List.flatMap_cons]
      have et : (ps.flatMap frameE).set i y = us.flatMap frameE ++ ((frameE p).set m y ++ rs.flatMap frameE) := by
        rw [e4, e2, List.set_append_right _ _ (by omega), Nat.add_sub_cancel_left, List.set_append_left _ _ e3]
      rw [e4, e2, List.getElem?_append_right (by omega), Nat.add_sub_cancel_left, List.getElem?_append_left e3] at hd
      obtain ⟨D, hD⟩ : ∃ D, headT qs.length (lastE l) ++ (qs.flatMap frameE ++ (ps.flatMap frameE).set i y) = D := ⟨_, rfl⟩
      have hh := headP_put qs.length (lastE l) (qs.flatMap frameE ++ (ps.flatMap frameE).set i y) (by omega) P.key.1 P.key.2
      have hi := idxP_put qs (headT qs.length (lastE l)) ((ps.flatMap frameE).set i y) [] P.qok
      rw [P.qflat, List.nil_append] at hi
      rw [hD] at hh hi ⊢
      obtain ⟨H, hH⟩ : ∃ H, headT qs.length (lastE l) ++ qs.flatMap frameE = H := ⟨_, rfl⟩
      rw [hH] at hi
      have eD : D = H ++ (us.flatMap frameE ++ ((frameE p).set m y ++ rs.flatMap frameE)) := by rw [← hD, ← hH, et]; simp only [List.append_assoc]
      have hopen := open_of P hh hi (by rw [eD, e4]; simp only [List.length_append, List.length_set]; omega)
      have hpi : ps[us.length]? = some p := by rw [e1, List.getElem?_append_right (Nat.le_refl _), Nat.sub_self]; rfl
      have hta : ps.take us.length = us := by rw [e1]; exact List.take_left
      refine ⟨(H.length : Int), us.length, (List.getElem?_eq_some_iff.1 hpi).1, hopen, fun n x hn hx => ?_, ?_⟩
      · have hnl := (List.getElem?_eq_some_iff.1 hx).1
        by_cases hlt : n < us.length
        · have hxa : us[n]? = some x := by rw [e1, List.getElem?_append_left hlt] at hx; exact hx
          have ea : us = us.take n ++ x :: us.drop (n + 1) := by
            have := List.drop_eq_getElem_cons hlt
            rw [(List.getElem?_eq_some_iff.1 hxa).2] at this
            rw [← this, List.take_append_drop]
          have htn : ps.take n = us.take n := by rw [e1, List.take_append_of_le_length (by omega)]
          have eD2 : D = (H ++ (us.take n).flatMap frameE) ++ (frameE x ++ ((us.drop (n + 1)).flatMap frameE ++ ((frameE p).set m y ++ rs.flatMap frameE))) := by
            rw [eD]
            conv => lhs; rw [ea]
            simp only [List.flatMap_append, List.flatMap_cons, List.append_assoc]
          rw [eD2]
          exact block_at P ho hx _ _ _ (by rw [htn]; simp only [List.length_append]; omega)
        · obtain ⟨u, rfl⟩ : ∃ u, n = us.length + 1 + u := ⟨n - (us.length + 1), by omega⟩
          have hxr : rs[u]? = some x := by
            rw [e1, List.getElem?_append_right (by omega), show us.length + 1 + u - us.length = u + 1 by omega, List.getElem?_cons_succ] at hx
            exact hx
          have hul := (List.getElem?_eq_some_iff.1 hxr).1
          have er : rs = rs.take u ++ x :: rs.drop (u + 1) := by
            have := List.drop_eq_getElem_cons hul
            rw [(List.getElem?_eq_some_iff.1 hxr).2] at this
            rw [← this, List.take_append_drop]
          have htn : ps.take (us.length + 1 + u) = us ++ p :: rs.take u := by
            rw [e1, Nat.add_assoc, List.take_length_add_append, Nat.add_comm 1 u, List.take_succ_cons]
          have eD2 : D = (H ++ (us.flatMap frameE ++ ((frameE p).set m y ++ (rs.take u).flatMap frameE))) ++ (frameE x ++ (rs.drop (u + 1)).flatMap frameE) := by
            rw [eD]
            conv => lhs; rw [er]
            simp only [List.flatMap_append, List.flatMap_cons, List.append_assoc]
          rw [eD2]
          exact block_at P ho hx _ _ _ (by rw [htn]; simp only [List.length_append, List.flatMap_append, List.flatMap_cons, List.length_set]; omega)
      · have eD2 : D = (H ++ us.flatMap frameE) ++ ((frameE p).set m y ++ rs.flatMap frameE) := by rw [eD]; simp only [List.append_assoc]
        rw [eD2]
        exact block_turn P hpi _ _ _ (by rw [hta]; simp only [List.length_append]; omega) e3 hy hd
end Go.Proofs.YtmgggddnfeojmaaGreat
namespace Go.Proofs.YtmgggddnfeojmaaGreat
theorem goF_rest {t : Tb} {e : Er} {ps : List (List Er)} : ∀ (f i : Nat), i + f = ps.length → (∀ j p, i ≤ j → ps[j]? = some p → blockP t j = some p) → goF t e f i = (walkL e (ps.drop i), false)
  | 0, i, h, _ => by
    rw [List.drop_of_length_le (by omega)]
    rfl
  | f + 1, i, h, hb => by
    have hi : i < ps.length := by omega
    have hp := List.getElem?_eq_getElem hi
    rw [List.drop_eq_getElem_cons hi]
    unfold goF
    rw [hb i _ (Nat.le_refl _) hp, goF_rest f (i + 1) (by omega) (fun j p hj => hb j p (by omega))]
    unfold walkL
    rw [List.flatMap_cons]
theorem goF_hurt {t : Tb} {e : Er} {ps : List (List Er)} {j : Nat} (hb : ∀ i p, i ≠ j → ps[i]? = some p → blockP t i = some p) (hj : blockP t j = none) (hjl : j < ps.length) : ∀ (f i : Nat), i + f = ps.length → i ≤ j → goF t e f i = (walkL e ((ps.take j).drop i), true)
  | 0, i, h, h2 => by omega
  | f + 1, i, h, h2 => by
    unfold goF
    by_cases hij : i = j
    · subst hij
      rw [hj, List.drop_of_length_le (by rw [List.length_take]; omega)]
      rfl
    · have hi : i < ps.length := by omega
      have hp := List.getElem?_eq_getElem hi
      have hit : i < (ps.take j).length := by rw [List.length_take]; omega
      have hpt : (ps.take j)[i] = ps[i] := by rw [List.getElem_take]
      rw [hb i _ hij hp, goF_hurt hb hj hjl f (i + 1) (by omega) (by omega), List.drop_eq_getElem_cons hit, hpt]
      unfold walkL
      rw [List.flatMap_cons]
theorem walk_from {ps : List (List Er)} {a : Int} {t : Tb} {e : Er} (ht : t.rows = rowsE ps a) (hn : ∀ p ∈ ps, p ≠ []) (ho : OrdL ps.flatten) : walkL e (ps.drop (behindN e t.rows - 1)) = ps.flatten.drop (seekN e ps.flatten) := by
  obtain ⟨i, hi⟩ : ∃ i, behindN e t.rows - 1 = i := ⟨_, rfl⟩
  have hbl := behindN_le e t.rows
  have hl : t.rows.length = ps.length := by rw [ht, rowsE_len]
  rw [hi]
  have eps : ps = ps.take i ++ ps.drop i := (List.take_append_drop i ps).symm
  have ef : ps.flatten = (ps.take i).flatten ++ (ps.drop i).flatten := by
    conv => lhs; rw [eps]
    rw [List.flatten_append]
  have ho' := ho
  rw [ef] at ho'
  rw [walkL_flat (OrdL.split ho').2, ef]
  by_cases h0 : i = 0
  · subst h0
    simp
  · have hlt : i < behindN e t.rows := by omega
    have hi2 : i < ps.length := by omega
    obtain ⟨p, hp⟩ : ∃ p, ps[i]? = some p := ⟨_, List.getElem?_eq_getElem hi2⟩
    have hr := rowsE_get ps a i p hp
    rw [← ht] at hr
    have h1 := behindN_under hlt hr
    simp only at h1
    obtain ⟨x, m, rfl⟩ : ∃ x m, p = x :: m := by
      cases p with
      | nil => exact absurd rfl (hn [] (List.mem_of_getElem? hp))
      | cons x m => exact ⟨x, m, rfl⟩
    have ed : ps.drop i = (x :: m) :: ps.drop (i + 1) := by
      have := List.drop_eq_getElem_cons hi2
      rwa [(List.getElem?_eq_some_iff.1 hp).2] at this
    have hall : ∀ y ∈ (ps.take i).flatten, ordE y e < 0 := fun y hy => by
      obtain ⟨j, hj⟩ := List.mem_iff_getElem?.1 hy
      have hjl := (List.getElem?_eq_some_iff.1 hj).1
      have hyx : ordE y x < 0 := ordL_sorted ho' (i := j) (j := (ps.take i).flatten.length) hjl (by rw [List.getElem?_append_left hjl]; exact hj) (by rw [List.getElem?_append_right (Nat.le_refl _), Nat.sub_self, ed]; rfl)
      have hxe : ordE x e ≤ 0 := by
        have e9 : ordE ((tellE (x :: m)).1, (tellE (x :: m)).2.1, false, []) e = ordE x e := rfl
        rwa [e9] at h1
      by_cases hz : ordE x e = 0
      · obtain ⟨k1, k2⟩ := ordE_zero.1 hz
        rw [ordE_lt] at hyx ⊢
        rwa [k1, k2] at hyx
      · exact ordE_trans hyx (by omega)
    rw [seekN_append hall, List.drop_append, List.drop_of_length_le (l := (ps.take i).flatten) (by omega)]
    simp
theorem walkL_append (e : Er) (ps qs : List (List Er)) : walkL e (ps ++ qs) = walkL e ps ++ walkL e qs := by simp [walkL]
/-- A key that is looked for, where one block can't be read: the fault is told, or the answer is the one that it was. -/
theorem told_first {ps : List (List Er)} {a : Int} {t : Tb} {k : List Int} {s : Int} {j : Nat} (ht : t.rows = rowsE ps a) (hn : ∀ p ∈ ps, p ≠ []) (ho : OrdL ps.flatten) (hjl : j < ps.length) (hb : ∀ i p, i ≠ j → ps[i]? = some p → blockP t i = some p) (hj : blockP t j = none) :
    getP t k s = (none, true) ∨ getP t k s = (getE ps.flatten k s, false) := by
  have hw := walk_from (e := (k, s, false, [])) ht hn ho
  have hl : t.rows.length = ps.length := by rw [ht, rowsE_len]
  have hbl := behindN_le (k, s, false, []) t.rows
  rw [← getE_go ho, ← hw]
  unfold getP goP
  obtain ⟨i, hi⟩ : ∃ i, behindN (k, s, false, []) t.rows - 1 = i := ⟨_, rfl⟩
  rw [hi]
  by_cases h : i ≤ j
  · rw [goF_hurt hb hj hjl _ i (by omega) h]
    have e1 : ps.drop i = (ps.take j).drop i ++ ps.drop j := by
      conv => lhs; rw [← List.take_append_drop j ps]
      rw [List.drop_append_of_le_length (by rw [List.length_take]; omega)]
    rw [e1, walkL_append]
    generalize walkL (k, s, false, []) ((ps.take j).drop i) = m
    cases m with
    | nil => exact .inl rfl
    | cons x m => exact .inr rfl
  · right
    rw [goF_rest (ps := ps) _ i (by omega) (fun n p hn' => hb n p (by omega))]
/-- All of it. -/
theorem behind_none {l : List Rw} (h : ∀ r ∈ l, 1 ≤ r.first.1.length) (hi : Int) : behindN ([], hi, false, []) l = 0 := by
  cases l with
  | nil => rfl
  | cons r l =>
    unfold behindN
    rw [if_neg]
    have h1 := h r (by simp)
    unfold ordE
    rw [cmpL_pos h1, if_pos (by decide)]
    decide
theorem seek_none {l : List Er} (h : ∀ e ∈ l, 1 ≤ e.1.length) (hi : Int) : seekN ([], hi, false, []) l = 0 := seekN_none (fun x hx => by
  unfold ordE
  rw [cmpL_pos (h x hx), if_pos (by decide)]
  decide)
theorem told_all {ps : List (List Er)} {a : Int} {t : Tb} {j : Nat} (ht : t.rows = rowsE ps a) (hn : ∀ p ∈ ps, p ≠ []) (ho : OrdL ps.flatten) (hjl : j < ps.length) (hb : ∀ i p, i ≠ j → ps[i]? = some p → blockP t i = some p) (hj : blockP t j = none) :
    rangeP t [] [] = ((ps.take j).flatten, true) ∧ ∃ m, m ≠ [] ∧ ps.flatten = (ps.take j).flatten ++ m := by
  have hg := ho.good
  have hmem : ∀ p ∈ ps, ∀ x ∈ p, 1 ≤ x.1.length := fun p hp x hx => (hg x (List.mem_flatten.2 ⟨p, hp, hx⟩)).1.1
  have hr : ∀ r ∈ t.rows, 1 ≤ r.first.1.length := fun r hr => by
    obtain ⟨i, hi⟩ := List.mem_iff_getElem?.1 hr
    have hil := (List.getElem?_eq_some_iff.1 hi).1
    rw [ht, rowsE_len] at hil
    obtain ⟨p, hp⟩ : ∃ p, ps[i]? = some p := ⟨_, List.getElem?_eq_getElem hil⟩
    rw [ht, rowsE_get ps a i p hp] at hi
    injection hi with hi
    rw [← hi]
    have hpm := List.mem_of_getElem? hp
    cases p with
    | nil => exact absurd rfl (hn [] hpm)
    | cons x m => exact hmem _ hpm x (by simp)
  refine ⟨?_, (ps.drop j).flatten, fun e => ?_, ?_⟩
  · unfold rangeP goP
    rw [behind_none hr _, goF_hurt hb hj hjl _ 0 (by rw [ht, rowsE_len]; omega) (Nat.zero_le _), List.drop_zero]
    have e1 : walkL ([], 9223372036854775807, false, []) (ps.take j) = (ps.take j).flatten := by
      have : ∀ qs : List (List Er), (∀ p ∈ qs, ∀ x ∈ p, 1 ≤ x.1.length) → walkL ([], 9223372036854775807, false, []) qs = qs.flatten := fun qs => by
        induction qs with
        | nil => intro _; rfl
        | cons p qs ih =>
          intro h
          have h2 : walkL ([], 9223372036854775807, false, []) (p :: qs) = p.drop (seekN ([], 9223372036854775807, false, []) p) ++ walkL ([], 9223372036854775807, false, []) qs := by simp [walkL]
          rw [h2, seek_none (h p (by simp)), List.drop_zero, ih (fun q hq => h q (by simp [hq])), List.flatten_cons]
      exact this _ (fun p hp => hmem p (List.mem_of_mem_take hp))
    rw [e1]
    have hu : ∀ x : Er, underE [] x = true := fun x => by simp [underE]
    unfold cutP
    simp only
    rw [show (ps.take j).flatten.all (underE []) = true by simp [hu]]
    have hw : ∀ m : List Er, m.takeWhile (underE []) = m := fun m => by
      induction m with
      | nil => rfl
      | cons x m ih => rw [List.takeWhile_cons_of_pos (hu x), ih]
    rw [hw]
    rfl
  · obtain ⟨p, hp⟩ : ∃ p, ps[j]? = some p := ⟨_, List.getElem?_eq_getElem hjl⟩
    have hd := List.drop_eq_getElem_cons hjl
    rw [hd, List.flatten_cons] at e
    exact hn _ (List.getElem_mem hjl) (List.append_eq_nil_iff.1 e).1
  · conv => lhs; rw [← List.take_append_drop j ps]
    rw [List.flatten_append]
end Go.Proofs.YtmgggddnfeojmaaGreat
namespace Go.Proofs.YtmgggddnfeojmaaGreat
open Go.RowKit
/-- While a row grows, rows of other elements stay. -/
theorem own_apart {w w' : World} {B D : Nat} {e1 e2 : TypeId} {s1 s2 : Nat} {A C : Option Addr} {n c m d n' m' : Nat} {xs ys : List Value} (h : w.ownsRow B e1 s1 (.slice A n c) n' xs) (hs : w.ownsRow D e2 s2 (.slice C m d) m' ys) (hne : e1 ≠ e2) (hg : w.grownBy w' (Value.slice C m d).ownBlock) : w'.ownsRow B e1 s1 (.slice A n c) n' xs := by
  refine ⟨h.1, ?_⟩
  rcases h.2 with hn | ⟨g, cap, cur, e1', h1, h2, h3⟩
  · exact .inl hn
  · refine .inr ⟨g, cap, cur, e1', h1, ?_, h3⟩
    have hlt : g < w.heap.size := (Array.getElem?_eq_some_iff.1 h2).1
    rw [hg.block g hlt, h2]
    intro e
    rcases hs.2 with ⟨hn, _⟩ | ⟨g', cap', cur', e', _, h2', _⟩
    · rw [hn] at e
      simp [Value.ownBlock] at e
    · rw [e'] at e
      obtain rfl : g = g' := by simpa [Value.ownBlock] using e
      rw [h2] at h2'
      injection h2' with h2'
      injection h2' with _ h2'
      exact hne h2'
theorem wpList_append_placed (w : World) {ops : Array Oper} {rest : List Oper} {o : Oper} {a : Act} {Q : Exit → Act → World → Prop} (hgd : o.guard = none) (s x : Operand)
    (ho : o.op = .call { callee := .builtin .append, args := #[s, x], argTypes := #[42, 42] })
    (B : Nat) (A : Option Addr) (c : Nat) (L M : List Int) (C : Option Addr) (n m cm : Nat) (hs : a.eval s = .slice A n c) (hx : a.eval x = .slice C m cm) (en : L.length = n) (em : M.length = m) (h : Row w B A c L) (hm : Bys w C M) (hB : B ≤ w.heap.size) (hr : L.length + M.length ≤ 140737488355328)
    (k : ∀ A' c' w', Row w' B A' c' (L ++ M) → Below B w w' → w.grownBy w' (Value.slice A n c).ownBlock → (∀ ad, A' = some ad → (∃ a0, A = some a0 ∧ ad.block = a0.block) ∨ w.heap.size ≤ ad.block) → wpList Tryz.prog ops Q rest (a.put o.dst (.slice A' (n + m) c')) w') : wpList Tryz.prog ops Q (o :: rest) a w := by
  subst en
  subst em
  refine wpList_plain hgd fun K hK => ?_
  obtain ⟨A', c', w', r, h2, h3, h4, h5⟩ := row_placed w o.type B A c L M C cm h hm hB hr
  have k' := k A' c' w' h2 h3 h4 h5
  unfold Oper.wp execOp
  simp only [ho, resolve, invoke, builtin, Sem.run_bind, Sem.run_pure, Result.andThen_ok, List.map_toArray, List.map_cons, List.map_nil, hs, hx, r]
  exact hK _ _ k'
/-- Pairs whose keys can be read and whose values are rows of the call's own, none in the block of a row that grows. -/
def MadeV (w : World) (B : Nat) (C : Option Addr) (T : List Bp) : Prop := ∀ q ∈ T, Row w B q.v.a q.v.c q.v.l ∧ Byt q.v.l ∧ ∀ ad cd, q.v.a = some ad → C = some cd → ad.block ≠ cd.block
theorem MadeV.nil (w : World) (B : Nat) (C : Option Addr) : MadeV w B C [] := fun _ h => by cases h
theorem MadeV.kept {w w' : World} {B D : Nat} {C : Option Addr} {T : List Bp} (h : MadeV w B C T) (hb : Below D w w') (hD : w.heap.size ≤ D) : MadeV w' B C T := fun q hq => ⟨(h q hq).1.kept hb hD, (h q hq).2⟩
theorem MadeV.grown {w w' : World} {B : Nat} {C C' : Option Addr} {c n : Nat} {T : List Bp} (h : MadeV w B C T) (hg : w.grownBy w' (Value.slice C n c).ownBlock) (hp : ∀ ad, C' = some ad → (∃ a0, C = some a0 ∧ ad.block = a0.block) ∨ w.heap.size ≤ ad.block) : MadeV w' B C' T := fun q hq => by
  obtain ⟨h1, h2, h3⟩ := h q hq
  refine ⟨own_far h1 hg (fun ad hA cd hC => h3 cd ad hC hA), h2, fun ad cd ha hc => ?_⟩
  rcases hp cd hc with ⟨a0, e1, e2⟩ | hlt
  · rw [e2]
    exact h3 ad a0 ha e1
  · have := (own_in h1 ad ha).2
    omega
theorem MadeV.beside {w w' : World} {B D : Nat} {C P : Option Addr} {d : Nat} {T U : List Bp} (h : MadeV w B C T) (hs : Prow w D P d U) (hg : w.grownBy w' (Value.slice P U.length d).ownBlock) : MadeV w' B C T := fun q hq => ⟨(h q hq).1.besideP hs hg, (h q hq).2⟩
theorem MadeV.snoc {w : World} {B : Nat} {C : Option Addr} {T : List Bp} {q : Bp} (h : MadeV w B C T) (h1 : Row w B q.v.a q.v.c q.v.l) (h2 : Byt q.v.l) (h3 : ∀ ad cd, q.v.a = some ad → C = some cd → ad.block ≠ cd.block) : MadeV w B C (T ++ [q]) := fun x hx => by
  rcases List.mem_append.1 hx with hx | hx
  · exact h x hx
  · rw [List.mem_singleton] at hx
    subst hx
    exact ⟨h1, h2, h3⟩
theorem pk_more {B : Nat} {w1 w2 W w8 : World} {A3 A4 : Option Addr} {c3 c4 tn : Nat} {T : List Bp} {V : List Int} {q : Bp} (b8 : W.grownBy w8 (Value.slice A3 tn c3).ownBlock) (ht : T.length = tn) (hP : Prow w1 B A3 c3 T) (hR : Row w1 B A4 c4 V) (hM : MadeV w1 B A4 T) (h2 : Row w2 B q.v.a q.v.c q.v.l) (hy : Byt q.v.l) (hf : ∀ ad, q.v.a = some ad → w1.heap.size ≤ ad.block) (hW : Below w1.heap.size w1 W) (hW2 : Below w2.heap.size w2 W) : Row w8 B A4 c4 V ∧ MadeV w8 B A4 (T ++ [q]) := by
  subst ht
  have hP' := hP.kept hW (Nat.le_refl _)
  refine ⟨(hR.kept hW (Nat.le_refl _)).besideP hP' b8, ((hM.kept hW (Nat.le_refl _)).beside hP' b8).snoc ((h2.kept hW2 (Nat.le_refl _)).besideP hP' b8) hy (fun ad cd ha hc => ?_)⟩
  have h3 := hf ad ha
  have h4 := (own_in hR cd hc).2
  omega
/-- What stands behind some of the keys of a block. -/
structure PkS (l : List En) (T : List Bp) (V : List Int) (l' : List En) : Prop where
  pr : pairsE (ers l) = rds T ++ pairsE (ers l')
  vs : versE (ers l) = V ++ versE (ers l')
  rest : ∀ q ∈ l', q ∈ l
  keys : ∀ p ∈ T, ∃ q ∈ l, p.k = q.k
theorem PkS.step {l : List En} {T : List Bp} {V : List Int} {x : En} {m : List En} {r : Nat} {A : Option Addr} {c : Nat} (h : PkS l T V (x :: m)) (hr : runN x.k.l (ers (x :: m)) = r) : PkS l (T ++ [⟨x.k, ⟨A, c, digs (r : Nat)⟩⟩]) (V ++ versE (ers ((x :: m).take r))) ((x :: m).drop r) := by
  refine ⟨?_, ?_, fun q hq => h.rest q (List.mem_of_mem_drop hq), ?_⟩
  · rw [h.pr, rds_append, List.append_assoc, ers_drop]
    have e := pairsE_cons x.rd (ers m)
    rw [show x.rd :: ers m = ers (x :: m) from rfl, show x.rd.1 = x.k.l from rfl, hr] at e
    rw [e]
    simp [rds, Bp.rd]
  · rw [h.vs, List.append_assoc, ← versE_append, ← ers_append, List.take_append_drop]
  · intro p hp
    rcases List.mem_append.1 hp with hp | hp
    · exact h.keys p hp
    · rw [List.mem_singleton] at hp
      subst hp
      exact ⟨x, h.rest x (by simp), rfl⟩
theorem vers_more {V Vi ve : List Int} {l : List En} {k : Nat} {y : En} (h : Vi = V ++ versE (ers (l.take k))) (hy : l[k]? = some y) (hv : verE y.rd = ve) : Vi ++ ve = V ++ versE (ers (l.take (k + 1))) := by
  rw [h, ← hv, List.take_add_one, hy, ers_append, versE_append, List.append_assoc]
  simp [ers, versE]
theorem PkS.pairs {l : List En} {T : List Bp} {V : List Int} (h : PkS l T V []) : rds T = pairsE (ers l) ∧ V = versE (ers l) := by
  have h1 := h.pr
  have h2 := h.vs
  rw [show pairsE (ers []) = [] from rfl, List.append_nil] at h1
  rw [show versE (ers []) = [] from rfl, List.append_nil] at h2
  exact ⟨h1.symm, h2.symm⟩
theorem PkS.few {l : List En} {T : List Bp} {V : List Int} {l' : List En} (h : PkS l T V l') : T.length ≤ l.length ∧ V.length ≤ (versE (ers l)).length := by
  refine ⟨?_, by rw [h.vs]; simp⟩
  have := (pairs_size (ers l).length (ers l) (Nat.le_refl _)).2
  rw [h.pr, ers_len, List.length_append, rds_len] at this
  omega
theorem PkS.ins {w : World} {B : Nat} {C : Option Addr} {l : List En} {T : List Bp} {V : List Int} {l' : List En} (h : PkS l T V l') (hi : EIns w l) (hm : MadeV w B C T) : Ins w T := fun p hp => by
  obtain ⟨q, hq, e⟩ := h.keys p hp
  exact ⟨e ▸ (hi q hq).1, (hm p hp).1.in_ (hm p hp).2.1⟩
end Go.Proofs.YtmgggddnfeojmaaGreat
