/-
  Plain: a table's file is opened as it was written. Nothing of the program. Plain: a table's file is opened as it was written: head, index, rows, blocks. Nothing of the program. Plain: a table is gone over from a place on. Nothing of the program. Plain: what is looked for in a table: a key up to a number, a range. Nothing of the program. Plain: what is turned in a table's file, or cut off, is told: what could be read of bytes is read so of more bytes, too; frames with another length. Nothing of the program. Plain: a byte of a table's file that is turned, an end that is cut off: the file is refused, or one block can't be read. Nothing of the program. Memory: rows that stand beside others.
-/
import Derived.Test.YtmgggddnfeojmaaGreatJO03
import Derived.Test.YtmgggddnfeojmaaGreatJO06
import Derived.Test.YtmgggddnfeojmaaGreatJO08
set_option linter.unusedSimpArgs false
set_option linter.unusedVariables false
namespace Go.Proofs.YtmgggddnfeojmaaGreat
def ByE (e : Er) : Prop := Byt e.1 ∧ Byt e.2.2.2
def ByL (l : List Er) : Prop := ∀ e ∈ l, ByE e
theorem formP_size (a : List Int) (p : Pr) : (formP a p).length ≤ 30 + p.1.length + p.2.length := by
  have h1 := digs_len (alike p.1 a)
  have h2 := digs_len ((p.1.length - alike p.1 a : Nat) : Int)
  have h3 := digs_len p.2.length
  unfold formP
  simp only [List.length_append, List.length_drop]
  omega
theorem flatP_size : ∀ (a : List Int) (l : List Pr), (flatP a l).length ≤ 30 * l.length + (l.map (fun p => p.1.length + p.2.length)).sum
  | _, [] => by simp [flatP]
  | a, p :: l => by
    have h1 := formP_size a p
    have h2 := flatP_size p.1 l
    simp only [flatP, List.length_append, List.length_cons, List.map_cons, List.sum_cons]
    omega
theorem sizeE_append (l m : List Er) : sizeE (l ++ m) = sizeE l + sizeE m := by simp [sizeE]
theorem pairs_size : ∀ (f : Nat) (l : List Er), l.length ≤ f → ((pairsE l).map (fun p => p.1.length + p.2.length)).sum ≤ 10 * l.length + (l.map (fun e => e.1.length)).sum ∧ (pairsE l).length ≤ l.length
  | _, [], _ => ⟨Nat.le_refl _, Nat.le_refl _⟩
  | 0, e :: l, h => by simp at h
  | f + 1, e :: l, h => by
    have h1 := runN_pos (e := e) (l := l)
    have h2 := runN_le e.1 (e :: l)
    obtain ⟨n, hn⟩ : ∃ n, runN e.1 (e :: l) = n := ⟨_, rfl⟩
    rw [pairsE_cons, hn]
    rw [hn] at h1 h2
    obtain ⟨j, rfl⟩ : ∃ j, n = j + 1 := ⟨n - 1, by omega⟩
    rw [List.drop_succ_cons]
    have ih := pairs_size f (l.drop j) (by rw [List.length_drop]; simp only [List.length_cons] at h; omega)
    have h3 := digs_len ((j + 1 : Nat) : Int)
    have h4 : ((l.drop j).map (fun e : Er => e.1.length)).sum ≤ (l.map (fun e : Er => e.1.length)).sum := by
      conv => rhs; rw [← List.take_append_drop j l, List.map_append, List.sum_append]
      omega
    rw [List.length_drop] at ih
    simp only [List.length_cons, List.map_cons, List.sum_cons] at h2 ⊢
    omega
theorem versE_size : ∀ l : List Er, (versE l).length ≤ 20 * l.length + (l.map (fun e => e.2.2.2.length)).sum
  | [] => Nat.le_refl _
  | e :: l => by
    have ih := versE_size l
    have h1 := digs_len (headE e)
    have h2 := digs_len e.2.2.2.length
    have e1 : versE (e :: l) = verE e ++ versE l := by simp [versE]
    rw [e1]
    unfold verE
    simp only [List.length_append, List.length_cons, List.map_cons, List.sum_cons]
    omega
theorem sizeE_two (l : List Er) : sizeE l = (l.map (fun e => e.1.length)).sum + (l.map (fun e => e.2.2.2.length)).sum := by
  induction l with
  | nil => rfl
  | cons e l ih =>
    rw [sizeE_cons, ih]
    simp only [List.map_cons, List.sum_cons]
    omega
theorem packE_len {l : List Er} (h1 : l.length ≤ 1024) (h2 : sizeE l < 1048576 + 4296) : (packE l).length ≤ 2097152 := by
  have h3 := flatP_size [] (pairsE l)
  have h4 := pairs_size l.length l (Nat.le_refl _)
  have h5 := versE_size l
  have h6 := digs_len (flatP [] (pairsE l)).length
  have h7 := sizeE_two l
  unfold packE
  simp only [List.length_append]
  omega
set_option maxRecDepth 100000 in
theorem pairs_byt : ∀ (f : Nat) (l : List Er), l.length ≤ f → l.length ≤ 18446744073709551615 → ByL l → ∀ p ∈ pairsE l, PrB p
  | _, [], _, _, _, p, hp => by cases hp
  | 0, e :: l, h, _, _, _, _ => by simp at h
  | f + 1, e :: l, h, hb, hB, p, hp => by
    have h1 := runN_pos (e := e) (l := l)
    have h2 := runN_le e.1 (e :: l)
    rw [pairsE_cons] at hp
    rcases List.mem_cons.1 hp with rfl | hp
    · exact ⟨(hB e (by simp)).1, digs_byt _ (by omega) (by omega)⟩
    · exact pairs_byt f _ (by rw [List.length_drop]; simp only [List.length_cons] at h ⊢; omega) (by rw [List.length_drop]; omega) (fun x hx => hB x (List.mem_of_mem_drop hx)) p hp
theorem versE_byt {l : List Er} (h : ∀ e ∈ l, GoodE e) (hB : ByL l) : Byt (versE l) := fun x hx => by
  obtain ⟨e, he, hx⟩ := List.mem_flatMap.1 hx
  exact verE_byt (h e he) (hB e he).2 x hx
set_option maxRecDepth 100000 in
theorem packE_byt {l : List Er} (h : OrdL l) (hl : l.length ≤ 4096) (hB : ByL l) : Byt (packE l) := by
  have hF := pairs_fit h hl
  have h1 := flatP_byt [] (pairsE l) (pairs_byt l.length l (Nat.le_refl _) (by omega) hB) hF.2
  have h2 := flatP_len [] (pairsE l) hF.2
  have h3 := hF.1
  exact (digs_byt _ (by omega) (by omega)).append (h1.append (versE_byt h.good hB))
theorem fRead_put (B p R : List Int) (hB : Byt p) (hl : p.length ≤ 2097152) : fReadP (B ++ (putL p ++ R)) B.length = (p, ((B ++ putL p).length : Int), 0) := by
  have h := readL_put p R hB hl
  have e : (B ++ (putL p ++ R)).drop ((B.length : Int)).toNat = putL p ++ R := by rw [Int.toNat_natCast, List.drop_left]
  unfold fReadP
  rw [if_neg (by simp only [List.length_append]; omega), e, h]
  simp only [if_true]
  refine Prod.ext rfl (Prod.ext ?_ rfl)
  simp only [List.length_append, putL_len]
  omega
/-- A block's frame, wherever it stands. -/
theorem frame_read (B R : List Int) {l : List Er} (h : OrdL l) (hl : l.length ≤ 1024) (hs : sizeE l < 1048576 + 4296) (hB : ByL l) : fReadP (B ++ (frameE l ++ R)) B.length = (packE l, ((B ++ frameE l).length : Int), 0) ∧ unpackE (packE l) = some l :=
  ⟨fRead_put B (packE l) R (packE_byt h (by omega) hB) (packE_len hl hs), unpackE_pack h (by omega)⟩
/-- The index of blocks. -/
theorem tellE_cons (e : Er) (l : List Er) : tellE (e :: l) = (e.1, e.2.1, false, digs ((e :: l).length : Nat) ++ digs ((frameE (e :: l)).length : Nat)) := rfl
theorem tell_good {most : Nat} {p : List Er} (h : PieceOk most p) : GoodE (tellE p) := by
  obtain ⟨h1, h2, h3, h4⟩ := h
  cases p with
  | nil => exact absurd rfl h1
  | cons e l =>
    have hg := h3.good e (by simp)
    have k1 := digs_len ((e :: l).length : Nat)
    have k2 := digs_len ((frameE (e :: l)).length : Nat)
    refine ⟨hg.1, hg.2.1, ?_, fun k => by cases k⟩
    rw [tellE_cons]
    simp only [List.length_append]
    omega
theorem index_ord {most : Nat} : ∀ (ps : List (List Er)), (∀ p ∈ ps, PieceOk most p) → OrdL ps.flatten → OrdL (indexE ps)
  | [], _, _ => trivial
  | [p], h, _ => ⟨tell_good (h p (by simp)), trivial⟩
  | p :: q :: ps, h, ho => by
    have ih := index_ord (q :: ps) (fun x hx => h x (by simp [hx])) (OrdL.split (l := p) (by simpa using ho)).2
    have hp := h p (by simp)
    have hq := h q (by simp)
    refine ⟨tell_good hp, ih.1, ?_, ih.2⟩
    cases p with
    | nil => exact absurd rfl hp.1
    | cons x l =>
      cases q with
      | nil => exact absurd rfl hq.1
      | cons y m =>
        have := ordL_sorted (l := ((x :: l) :: (y :: m) :: ps).flatten) ho (i := 0) (j := (x :: l).length) (x := x) (y := y) (by simp) rfl (by simp)
        rw [ordE_lt] at this ⊢
        exact this
theorem index_byt {most : Nat} {ps : List (List Er)} (h : ∀ p ∈ ps, PieceOk most p) (hB : ∀ p ∈ ps, ByL p) (hm : most ≤ 1024) : ByL (indexE ps) := fun x hx => by
  obtain ⟨p, hp, rfl⟩ := List.mem_map.1 hx
  obtain ⟨h1, h2, h3, h4⟩ := h p hp
  cases p with
  | nil => exact absurd rfl h1
  | cons e l =>
    have k1 := packE_len (l := e :: l) (by omega) h4
    refine ⟨(hB _ hp e (by simp)).1, ?_⟩
    rw [tellE_cons]
    exact (digs_byt _ (by omega) (by omega)).append (digs_byt _ (by omega) (by unfold frameE; rw [putL_len]; omega))
end Go.Proofs.YtmgggddnfeojmaaGreat
namespace Go.Proofs.YtmgggddnfeojmaaGreat
theorem headP_put (n : Nat) (K R : List Int) (hn : (n : Int) ≤ 18446744073709551615) (hK : K.length ≤ 200) (hB : Byt K) : headP (headT n K ++ R) = some ((n : Int), K, ((headT n K).length : Int)) := by
  obtain ⟨P, hP⟩ : ∃ P, digs (n : Int) ++ (digs K.length ++ K) = P := ⟨_, rfl⟩
  have hd := digs_len (n : Int)
  have hk := digs_len K.length
  have hPl : P.length ≤ 2097152 := by rw [← hP]; simp only [List.length_append]; omega
  have hPB : Byt P := by rw [← hP]; exact (digs_byt _ (by omega) hn).append ((digs_byt _ (by omega) (by omega)).append hB)
  have k0 := fRead_put [] P R hPB hPl
  simp only [List.nil_append, List.length_nil] at k0
  replace k0 : fReadP (putL P ++ R) 0 = (P, ((putL P).length : Int), 0) := k0
  have k1 := uintP_back [] (digs K.length ++ K) (n : Int) (by omega) hn
  simp only [List.nil_append, List.length_nil] at k1
  rw [hP] at k1
  replace k1 : uintP P 0 = ((n : Int), ((digs (n : Int)).length : Int), 0) := by rw [show ((digs (n : Int)).length : Int) = ((0 : Nat) : Int) + ((digs (n : Int)).length : Int) by omega]; exact k1
  have k2 := bytesP_most (digs (n : Int)) K [] 200 (by omega) (by omega)
  simp only [List.append_nil] at k2
  rw [hP] at k2
  have e0 : headT n K = putL P := by unfold headT; rw [hP]
  rw [e0]
  unfold headP
  rw [k0]
  simp only [ne_eq, not_true_eq_false, if_false]
  rw [k1]
  simp only [not_true_eq_false, if_false]
  rw [k2]
  simp only [not_true_eq_false, if_false]
  rw [if_neg (by simp only [Decidable.not_not]; rw [← hP]; simp only [List.length_append]; omega)]
/-- The index's frames. -/
theorem idxP_put : ∀ (ps : List (List Er)) (B R : List Int) (acc : List Er), (∀ p ∈ ps, PieceOk 1024 p ∧ ByL p) → idxP (B ++ (ps.flatMap frameE ++ R)) ps.length B.length acc = some (acc ++ ps.flatten, ((B ++ ps.flatMap frameE).length : Int))
  | [], B, R, acc, _ => by simp [idxP]
  | p :: ps, B, R, acc, h => by
    obtain ⟨⟨h1, h2, h3, h4⟩, hB⟩ := h p (by simp)
    obtain ⟨k1, k2⟩ := frame_read B (ps.flatMap frameE ++ R) h3 h2 h4 hB
    have e1 : B ++ ((p :: ps).flatMap frameE ++ R) = B ++ (frameE p ++ (ps.flatMap frameE ++ R)) := by simp
    have e2 : B ++ ((p :: ps).flatMap frameE ++ R) = (B ++ frameE p) ++ (ps.flatMap frameE ++ R) := by simp
    have ih := idxP_put ps (B ++ frameE p) R (acc ++ p) (fun q hq => h q (by simp [hq]))
    rw [← e1] at k1
    rw [← e2] at ih
    rw [List.length_cons]
    unfold idxP
    rw [k1]
    simp only [ne_eq, not_true_eq_false, if_false]
    rw [k2]
    simp only
    rw [ih]
    simp
/-- What the index tells of a block is read so. -/
theorem rowP_tell {p : List Er} {a end_ : Int} (h : PieceOk 1024 p) (ha : a + ((frameE p).length : Int) ≤ end_) : rowP (tellE p) a end_ = some ⟨((tellE p).1, (tellE p).2.1, false, []), (p.length : Int), a, a + ((frameE p).length : Int)⟩ := by
  obtain ⟨h1, h2, h3, h4⟩ := h
  cases p with
  | nil => exact absurd rfl h1
  | cons e l =>
    have hf : (frameE (e :: l)).length ≤ 2097160 := by unfold frameE; rw [putL_len]; have := packE_len h2 h4; omega
    obtain ⟨n, hn⟩ : ∃ n, (e :: l).length = n := ⟨_, rfl⟩
    obtain ⟨f, hF⟩ : ∃ f, (frameE (e :: l)).length = f := ⟨_, rfl⟩
    rw [tellE_cons, hn, hF]
    rw [hn] at h2
    rw [hF] at hf ha
    have hn1 : 1 ≤ n := by rw [← hn]; simp
    have k1 := uintP_back [] (digs (f : Int)) (n : Int) (by omega) (by omega)
    simp only [List.nil_append, List.length_nil] at k1
    replace k1 : uintP (digs (n : Int) ++ digs (f : Int)) 0 = ((n : Int), ((digs (n : Int)).length : Int), 0) := by rw [show ((digs (n : Int)).length : Int) = ((0 : Nat) : Int) + ((digs (n : Int)).length : Int) by omega]; exact k1
    have k2 := uintP_back (digs (n : Int)) [] (f : Int) (by omega) (by omega)
    simp only [List.append_nil] at k2
    unfold rowP
    simp only
    rw [k1]
    simp only
    rw [k2]
    simp only [ne_eq, not_true_eq_false, false_or]
    rw [if_neg (by omega), if_neg (by simp only [List.length_append]; omega)]
/-- The rows of blocks that stand one behind the other. -/
def rowsE : List (List Er) → Int → List Rw
  | [], _ => []
  | p :: ps, a => ⟨((tellE p).1, (tellE p).2.1, false, []), (p.length : Int), a, a + ((frameE p).length : Int)⟩ :: rowsE ps (a + ((frameE p).length : Int))
theorem rowsE_len : ∀ (ps : List (List Er)) (a : Int), (rowsE ps a).length = ps.length
  | [], _ => rfl
  | p :: ps, a => by simp [rowsE, rowsE_len ps]
theorem rowsP_tell : ∀ (ps : List (List Er)) (a end_ : Int) (acc : List Rw), (∀ p ∈ ps, PieceOk 1024 p) → a + ((ps.flatMap frameE).length : Int) = end_ → rowsP end_ (indexE ps) a acc = some (acc ++ rowsE ps a)
  | [], a, end_, acc, _, h => by
    simp only [List.flatMap_nil, List.length_nil] at h
    simp [rowsP, indexE, rowsE, ← h]
  | p :: ps, a, end_, acc, h, he => by
    simp only [List.flatMap_cons, List.length_append] at he
    have k := rowP_tell (a := a) (end_ := end_) (h p (by simp)) (by omega)
    have ih := rowsP_tell ps (a + ((frameE p).length : Int)) end_ (acc ++ [⟨((tellE p).1, (tellE p).2.1, false, []), (p.length : Int), a, a + ((frameE p).length : Int)⟩]) (fun q hq => h q (by simp [hq])) (by omega)
    show rowsP end_ (tellE p :: indexE ps) a acc = _
    unfold rowsP
    rw [k]
    simp only
    rw [ih]
    simp [rowsE]
theorem rowsE_get : ∀ (ps : List (List Er)) (a : Int) (i : Nat) (p : List Er), ps[i]? = some p → (rowsE ps a)[i]? = some ⟨((tellE p).1, (tellE p).2.1, false, []), (p.length : Int), a + (((ps.take i).flatMap frameE).length : Int), a + (((ps.take i).flatMap frameE).length : Int) + ((frameE p).length : Int)⟩
  | [], _, i, _, h => by simp at h
  | q :: ps, a, 0, p, h => by
    simp at h
    subst h
    simp [rowsE]
  | q :: ps, a, i + 1, p, h => by
    have ih := rowsE_get ps (a + ((frameE q).length : Int)) i p (by simpa using h)
    rw [rowsE, List.getElem?_cons_succ, ih]
    simp only [List.take_succ_cons, List.flatMap_cons, List.length_append, Option.some.injEq, Rw.mk.injEq, true_and]
    omega
theorem last_flat : ∀ (ps : List (List Er)) (p : List Er) (e : Er), (∀ q ∈ ps, q ≠ []) → ps.getLast? = some p → p.getLast? = some e → ps.flatten.getLast? = some e
  | [], _, _, _, h, _ => by simp at h
  | [q], p, e, _, h, he => by
    simp at h
    subst h
    simpa using he
  | q :: r :: ps, p, e, hn, h, he => by
    rw [List.getLast?_cons_cons] at h
    have ih := last_flat (r :: ps) p e (fun x hx => hn x (by simp [hx])) h he
    rw [List.flatten_cons, List.getLast?_append, ih]
    rfl
theorem tell_first {p : List Er} {x : Er} (h : p.head? = some x) : (tellE p).1 = x.1 ∧ (tellE p).2.1 = x.2.1 := by
  cases p with
  | nil => cases h
  | cons e l =>
    injection h with h
    subst h
    exact ⟨rfl, rfl⟩
theorem ord_first {p : List Er} {x y : Er} (h : p.head? = some x) : ordE y ((tellE p).1, (tellE p).2.1, false, []) = ordE y x := by
  obtain ⟨e1, e2⟩ := tell_first h
  unfold ordE
  simp only [e1, e2]
/-- Entries that are written make a table that has them, block by block. -/
theorem tableP_file {l : List Er} {size : Nat} (ho : OrdL l) (hne : l ≠ []) (hB : ByL l) (h1 : 1 ≤ size) (h2 : size ≤ 1024) (hl : l.length ≤ 9000000000000000000) :
    ∃ a : Int, tableP (fileE l size) = some ⟨fileE l size, rowsE (piecesE size l) a, lastE l⟩ ∧ ∀ i p, (piecesE size l)[i]? = some p → blockP ⟨fileE l size, rowsE (piecesE size l) a, lastE l⟩ i = some p := by
  obtain ⟨ps, hps⟩ : ∃ ps, piecesE size l = ps := ⟨_, rfl⟩
  have hflat : ps.flatten = l := hps ▸ pieces_flat h1 l.length l (Nat.le_refl _)
  have hok : ∀ p ∈ ps, PieceOk 1024 p := fun p hp => by
    obtain ⟨k1, k2, k3⟩ := pieces_ok h1 l.length l (Nat.le_refl _) ho p (hps ▸ hp)
    exact ⟨k1, by omega, k3⟩
  have hby : ∀ p ∈ ps, ByL p := fun p hp e he => hB e (by rw [← hflat]; exact List.mem_flatten.2 ⟨p, hp, he⟩)
  have hpsn : ps ≠ [] := fun e => hne (by rw [← hflat, e]; rfl)
  have hix := index_ord ps hok (by rw [hflat]; exact ho)
  have hib := index_byt hok hby (Nat.le_refl _)
  obtain ⟨qs, hqs⟩ : ∃ qs, piecesE 1024 (indexE ps) = qs := ⟨_, rfl⟩
  have hqf : qs.flatten = indexE ps := hqs ▸ pieces_flat (by decide) (indexE ps).length _ (Nat.le_refl _)
  have hqo : ∀ p ∈ qs, PieceOk 1024 p ∧ ByL p := fun p hp => ⟨pieces_ok (by decide) (indexE ps).length _ (Nat.le_refl _) hix p (hqs ▸ hp), fun e he => hib e (by rw [← hqf]; exact List.mem_flatten.2 ⟨p, hp, he⟩)⟩
  have hlen : ∀ (rs : List (List Er)), (∀ p ∈ rs, p ≠ []) → rs.length ≤ rs.flatten.length := fun rs => by
    induction rs with
    | nil => intro _; simp
    | cons p rs ih =>
      intro h
      have h3 := List.length_pos_iff.2 (h p (by simp))
      have h4 := ih (fun q hq => h q (by simp [hq]))
      simp only [List.flatten_cons, List.length_append, List.length_cons]
      omega
  have hpl : ps.length ≤ l.length := by have := hlen ps (fun p hp => (hok p hp).1); rwa [hflat] at this
  have hql : qs.length ≤ ps.length := by have := hlen qs (fun p hp => (hqo p hp).1.1); rw [hqf] at this; simpa [indexE] using this
  have hlast : ∃ e, l.getLast? = some e ∧ e ∈ l := by
    cases h : l.getLast? with
    | none => exact absurd (List.getLast?_eq_none_iff.1 h) hne
    | some e => exact ⟨e, rfl, List.mem_of_getLast? h⟩
  obtain ⟨z, hz, hzm⟩ := hlast
  have hK : lastE l = z.1 := by unfold lastE; rw [hz]
  have hzg := ho.good z hzm
  obtain ⟨F, hF⟩ : ∃ F, fileE l size = F := ⟨_, rfl⟩
  have eF : F = headT qs.length (lastE l) ++ (qs.flatMap frameE ++ ps.flatMap frameE) := by rw [← hF]; unfold fileE; rw [hps, hqs]
  have hd := headP_put qs.length (lastE l) (qs.flatMap frameE ++ ps.flatMap frameE) (by omega) (by rw [hK]; exact hzg.1.2) (by rw [hK]; exact (hB z hzm).1)
  rw [← eF] at hd
  have hi := idxP_put qs (headT qs.length (lastE l)) (ps.flatMap frameE) [] hqo
  rw [← eF, hqf, List.nil_append] at hi
  obtain ⟨H, hH⟩ : ∃ H, headT qs.length (lastE l) ++ qs.flatMap frameE = H := ⟨_, rfl⟩
  rw [hH] at hi
  have eF2 : F = H ++ ps.flatMap frameE := by rw [eF, ← hH, List.append_assoc]
  have hr := rowsP_tell ps (H.length : Int) (F.length : Int) [] hok (by rw [eF2, List.length_append]; omega)
  rw [List.nil_append] at hr
  refine ⟨(H.length : Int), ?_, fun i p hp => ?_⟩
  · rw [hF, hps]
    unfold tableP
    rw [hd]
    simp only [Int.toNat_natCast]
    rw [hi]
    simp only
    rw [if_neg (by simp only [not_or, Decidable.not_not]; exact ⟨fun e => hpsn (List.map_eq_nil_iff.1 e), hix⟩), hr]
  · rw [hps] at hp
    rw [hF, hps]
    have hpm := List.mem_of_getElem? hp
    obtain ⟨k1, k2, k3, k4⟩ := hok p hpm
    have hg := rowsE_get ps (H.length : Int) i p hp
    have hi' := (List.getElem?_eq_some_iff.1 hp).1
    have eps : ps = ps.take i ++ p :: ps.drop (i + 1) := by
      have := List.drop_eq_getElem_cons hi'
      rw [(List.getElem?_eq_some_iff.1 hp).2] at this
      rw [← this, List.take_append_drop]
    have eF3 : F = (H ++ (ps.take i).flatMap frameE) ++ (frameE p ++ (ps.drop (i + 1)).flatMap frameE) := by
      rw [eF2]
      conv => lhs; rw [eps]
      simp
    obtain ⟨m1, m2⟩ := frame_read (H ++ (ps.take i).flatMap frameE) ((ps.drop (i + 1)).flatMap frameE) k3 k2 k4 (hby p hpm)
    rw [← eF3] at m1
    have e4 : (H.length : Int) + (((ps.take i).flatMap frameE).length : Int) = ((H ++ (ps.take i).flatMap frameE).length : Int) := by rw [List.length_append]; omega
    unfold blockP
    simp only
    rw [hg]
    simp only
    rw [e4, m1]
    simp only [ne_eq, not_true_eq_false, false_or]
    rw [if_neg (by simp only [Decidable.not_not, List.length_append]; omega), m2]
    simp only
    rw [if_pos]
    obtain ⟨x, hx⟩ : ∃ x, p.head? = some x := by
      cases p with
      | nil => exact absurd rfl k1
      | cons x m => exact ⟨x, rfl⟩
    obtain ⟨y, hy⟩ : ∃ y, p.getLast? = some y := by
      cases h : p.getLast? with
      | none => exact absurd (List.getLast?_eq_none_iff.1 h) k1
      | some y => exact ⟨y, rfl⟩
    unfold fitsP
    simp only [hx, hy]
    rw [ord_first hx, ordE_self]
    simp only [decide_true, Bool.true_and]
    by_cases hn : i + 1 < ps.length
    · obtain ⟨q, hq⟩ : ∃ q, ps[i + 1]? = some q := ⟨_, List.getElem?_eq_getElem hn⟩
      rw [rowsE_get ps (H.length : Int) (i + 1) q hq]
      simp only [decide_eq_true_eq]
      obtain ⟨v, hv⟩ : ∃ v, q.head? = some v := by
        cases q with
        | nil => exact absurd rfl (hok [] (List.mem_of_getElem? hq)).1
        | cons v m => exact ⟨v, rfl⟩
      rw [ord_first hv]
      have eps2 : ps.drop (i + 1) = q :: ps.drop (i + 1 + 1) := by
        have := List.drop_eq_getElem_cons hn
        rwa [(List.getElem?_eq_some_iff.1 hq).2] at this
      have hfl : OrdL ((ps.take i).flatten ++ (p ++ (q ++ (ps.drop (i + 1 + 1)).flatten))) := by
        have h5 : ps.flatten = (ps.take i).flatten ++ (p ++ (q ++ (ps.drop (i + 1 + 1)).flatten)) := by
          conv => lhs; rw [eps, eps2]
          simp
        rw [← h5, hflat]
        exact ho
      have h6 := (OrdL.split hfl).2
      rw [List.getLast?_eq_getElem?] at hy
      have hpl2 := List.length_pos_iff.2 k1
      refine ordL_sorted h6 (i := p.length - 1) (j := p.length) (by omega) ?_ ?_
      · rw [List.getElem?_append_left (by omega)]; exact hy
      · rw [List.getElem?_append_right (Nat.le_refl _), Nat.sub_self]
        cases q with
        | nil => cases hv
        | cons v' m => simpa using hv
    · have hrn : (rowsE ps (H.length : Int))[i + 1]? = none := by rw [List.getElem?_eq_none_iff, rowsE_len]; omega
      rw [hrn]
      simp only [decide_eq_true_eq]
      have hpl3 : ps.getLast? = some p := by
        rw [List.getLast?_eq_getElem?, show ps.length - 1 = i by omega]
        exact hp
      have := last_flat ps p y (fun q hq => (hok q hq).1) hpl3 hy
      rw [hflat, hz] at this
      rw [hK, Option.some.inj this]
end Go.Proofs.YtmgggddnfeojmaaGreat
namespace Go.Proofs.YtmgggddnfeojmaaGreat
/-- How many, from the first on, stand ahead of e. -/
def seekN (e : Er) : List Er → Nat
  | [] => 0
  | x :: l => if ordE x e < 0 then seekN e l + 1 else 0
theorem seekN_le (e : Er) : ∀ l : List Er, seekN e l ≤ l.length
  | [] => Nat.le_refl _
  | x :: l => by
    unfold seekN
    have := seekN_le e l
    split
    · simp only [List.length_cons]; omega
    · simp
theorem seekN_none {e : Er} : ∀ {l : List Er}, (∀ x ∈ l, ¬ ordE x e < 0) → seekN e l = 0
  | [], _ => rfl
  | x :: l, h => by
    unfold seekN
    rw [if_neg (h x (by simp))]
theorem seekN_append {e : Er} : ∀ {l m : List Er}, (∀ x ∈ l, ordE x e < 0) → seekN e (l ++ m) = l.length + seekN e m
  | [], m, _ => by simp
  | x :: l, m, h => by
    rw [List.cons_append]
    conv => lhs; unfold seekN
    rw [if_pos (h x (by simp)), seekN_append (fun y hy => h y (by simp [hy]))]
    simp only [List.length_cons]
    omega
theorem seekN_stop {e : Er} : ∀ {l m : List Er}, seekN e l < l.length → seekN e (l ++ m) = seekN e l
  | [], m, h => by simp at h
  | x :: l, m, h => by
    rw [List.cons_append]
    unfold seekN at h ⊢
    split
    · next hx =>
      rw [if_pos hx] at h
      rw [seekN_stop (by simp only [List.length_cons] at h; omega)]
    · rfl
theorem seekN_under {e : Er} : ∀ {l : List Er} {i : Nat} {x : Er}, i < seekN e l → l[i]? = some x → ordE x e < 0
  | [], i, x, h, _ => by simp [seekN] at h
  | y :: l, i, x, h, hx => by
    unfold seekN at h
    split at h
    · next hy =>
      cases i with
      | zero => simp at hx; subst hx; exact hy
      | succ i => exact seekN_under (l := l) (i := i) (by omega) (by simpa using hx)
    · omega
theorem seekN_at {e : Er} : ∀ {l : List Er} {x : Er}, l[seekN e l]? = some x → ¬ ordE x e < 0
  | [], x, h => by simp [seekN] at h
  | y :: l, x, h => by
    unfold seekN at h
    split at h
    · exact seekN_at (by simpa using h)
    · next hy =>
      simp at h
      subst h
      exact hy
theorem not_lt_trans {x y e : Er} (h : ¬ ordE x e < 0) (g : ordE x y < 0) : ¬ ordE y e < 0 := fun k => h (ordE_trans g k)
/-- In order, what stands at the place or behind it is all that is left. -/
theorem seekN_rest {e : Er} {l : List Er} (h : OrdL l) : ∀ x ∈ l.drop (seekN e l), ¬ ordE x e < 0 := fun x hx => by
  obtain ⟨j, hj⟩ := List.mem_iff_getElem?.1 hx
  rw [List.getElem?_drop] at hj
  have hlt := (List.getElem?_eq_some_iff.1 hj).1
  have h0 : seekN e l < l.length := by omega
  have hy := List.getElem?_eq_getElem h0
  have h1 := seekN_at hy
  cases j with
  | zero =>
    rw [Nat.add_zero, hy] at hj
    rw [← Option.some.inj hj]
    exact h1
  | succ j => exact not_lt_trans h1 (ordL_sorted h (by omega) hy hj)
/-- Block by block, each from the place on. -/
def walkL (e : Er) (ps : List (List Er)) : List Er := ps.flatMap (fun p => p.drop (seekN e p))
theorem walkL_flat {e : Er} : ∀ {ps : List (List Er)}, OrdL ps.flatten → walkL e ps = ps.flatten.drop (seekN e ps.flatten)
  | [], _ => rfl
  | p :: ps, h => by
    rw [List.flatten_cons] at h ⊢
    have hs := OrdL.split h
    have ih := walkL_flat (e := e) hs.2
    have e1 : walkL e (p :: ps) = p.drop (seekN e p) ++ walkL e ps := by simp [walkL]
    rw [e1]
    by_cases hlt : seekN e p < p.length
    · rw [seekN_stop hlt, List.drop_append_of_le_length (by omega), ih]
      congr 1
      have hx := List.getElem?_eq_getElem hlt
      have h1 := seekN_at hx
      rw [seekN_none (fun y hy => ?_), List.drop_zero]
      obtain ⟨j, hj⟩ := List.mem_iff_getElem?.1 hy
      refine not_lt_trans h1 (ordL_sorted h (i := seekN e p) (j := p.length + j) (by omega) ?_ ?_)
      · rw [List.getElem?_append_left hlt]; exact hx
      · rw [List.getElem?_append_right (by omega), Nat.add_sub_cancel_left]; exact hj
    · have hle := seekN_le e p
      have hall : ∀ x ∈ p, ordE x e < 0 := fun x hx => by
        obtain ⟨j, hj⟩ := List.mem_iff_getElem?.1 hx
        exact seekN_under (by have := (List.getElem?_eq_some_iff.1 hj).1; omega) hj
      rw [seekN_append hall, List.drop_append, List.drop_of_length_le (show p.length ≤ seekN e p by omega), List.drop_of_length_le (show p.length ≤ p.length + seekN e ps.flatten by omega), ih, Nat.add_sub_cancel_left]
/-- How many rows begin at the place or ahead of it; where the walk begins; what it tells, and whether it met a fault. -/
def behindN (e : Er) : List Rw → Nat
  | [] => 0
  | r :: l => if ordE r.first e ≤ 0 then behindN e l + 1 else 0
def goF (t : Tb) (e : Er) : Nat → Nat → List Er × Bool
  | 0, _ => ([], false)
  | f + 1, i => match blockP t i with
    | none => ([], true)
    | some l => (l.drop (seekN e l) ++ (goF t e f (i + 1)).1, (goF t e f (i + 1)).2)
def goP (t : Tb) (e : Er) : List Er × Bool := goF t e (t.rows.length - (behindN e t.rows - 1)) (behindN e t.rows - 1)
theorem behindN_le (e : Er) : ∀ l : List Rw, behindN e l ≤ l.length
  | [] => Nat.le_refl _
  | r :: l => by
    unfold behindN
    have := behindN_le e l
    split
    · simp only [List.length_cons]; omega
    · simp
theorem behindN_under {e : Er} : ∀ {l : List Rw} {i : Nat} {r : Rw}, i < behindN e l → l[i]? = some r → ordE r.first e ≤ 0
  | [], i, r, h, _ => by simp [behindN] at h
  | y :: l, i, r, h, hx => by
    unfold behindN at h
    split at h
    · next hy =>
      cases i with
      | zero => simp at hx; subst hx; exact hy
      | succ i => exact behindN_under (l := l) (i := i) (by omega) (by simpa using hx)
    · omega
theorem goF_walk {t : Tb} {e : Er} {ps : List (List Er)} : ∀ (f i : Nat), i + f = ps.length → (∀ j p, ps[j]? = some p → blockP t j = some p) → goF t e f i = (walkL e (ps.drop i), false)
  | 0, i, h, _ => by
    rw [List.drop_of_length_le (by omega)]
    rfl
  | f + 1, i, h, hb => by
    have hi : i < ps.length := by omega
    have hp := List.getElem?_eq_getElem hi
    rw [List.drop_eq_getElem_cons hi]
    unfold goF
    rw [hb i _ hp, goF_walk f (i + 1) (by omega) hb]
    unfold walkL
    rw [List.flatMap_cons]
/-- A table that was written is gone over as its entries are. -/
theorem goP_file {ps : List (List Er)} {a : Int} {t : Tb} {e : Er} (ht : t.rows = rowsE ps a) (hb : ∀ j p, ps[j]? = some p → blockP t j = some p) (hn : ∀ p ∈ ps, p ≠ []) (ho : OrdL ps.flatten) : goP t e = (ps.flatten.drop (seekN e ps.flatten), false) := by
  obtain ⟨i, hi⟩ : ∃ i, behindN e t.rows - 1 = i := ⟨_, rfl⟩
  have hbl := behindN_le e t.rows
  have hl : t.rows.length = ps.length := by rw [ht, rowsE_len]
  have hip : i ≤ ps.length := by omega
  unfold goP
  rw [hi, goF_walk (ps := ps) _ _ (by omega) hb]
  have eps : ps = ps.take i ++ ps.drop i := (List.take_append_drop i ps).symm
  have ef : ps.flatten = (ps.take i).flatten ++ (ps.drop i).flatten := by
    conv => lhs; rw [eps]
    rw [List.flatten_append]
  have ho' := ho
  rw [ef] at ho'
  rw [walkL_flat (OrdL.split ho').2, ef]
  by_cases h0 : i = 0
  · subst h0
    simp
  · have hlt : i < behindN e t.rows := by omega
    have hi2 : i < ps.length := by omega
    obtain ⟨p, hp⟩ : ∃ p, ps[i]? = some p := ⟨_, List.getElem?_eq_getElem hi2⟩
    have hr := rowsE_get ps a i p hp
    rw [← ht] at hr
    have h1 := behindN_under hlt hr
    simp only at h1
    obtain ⟨x, m, rfl⟩ : ∃ x m, p = x :: m := by
      cases p with
      | nil => exact absurd rfl (hn [] (List.mem_of_getElem? hp))
      | cons x m => exact ⟨x, m, rfl⟩
    have ed : ps.drop i = (x :: m) :: ps.drop (i + 1) := by
      have := List.drop_eq_getElem_cons hi2
      rwa [(List.getElem?_eq_some_iff.1 hp).2] at this
    have hall : ∀ y ∈ (ps.take i).flatten, ordE y e < 0 := fun y hy => by
      obtain ⟨j, hj⟩ := List.mem_iff_getElem?.1 hy
      have hjl := (List.getElem?_eq_some_iff.1 hj).1
      have hyx : ordE y x < 0 := ordL_sorted ho' (i := j) (j := (ps.take i).flatten.length) hjl (by rw [List.getElem?_append_left hjl]; exact hj) (by rw [List.getElem?_append_right (Nat.le_refl _), Nat.sub_self, ed]; rfl)
      have hxe : ordE x e ≤ 0 := by
        have e9 : ordE ((tellE (x :: m)).1, (tellE (x :: m)).2.1, false, []) e = ordE x e := rfl
        rwa [e9] at h1
      by_cases hz : ordE x e = 0
      · obtain ⟨k1, k2⟩ := ordE_zero.1 hz
        rw [ordE_lt] at hyx ⊢
        rwa [k1, k2] at hyx
      · exact ordE_trans hyx (by omega)
    rw [seekN_append hall, List.drop_append, List.drop_of_length_le (l := (ps.take i).flatten) (by omega)]
    simp
end Go.Proofs.YtmgggddnfeojmaaGreat
namespace Go.Proofs.YtmgggddnfeojmaaGreat
/-- Of the entries of a key with numbers up to s the first one: the one with the greatest. -/
def getE (l : List Er) (k : List Int) (s : Int) : Option Er := l.find? (fun x => decide (x.1 = k) && decide (x.2.1 ≤ s))
def inE (lo hi : List Int) (x : Er) : Bool := decide (0 ≤ cmpL x.1 lo) && (decide (hi = []) || decide (cmpL x.1 hi < 0))
def rangeE (l : List Er) (lo hi : List Int) : List Er := l.filter (inE lo hi)
/-- What a table answers of what it is gone over as. -/
def firstP (k : List Int) : List Er × Bool → Option Er × Bool
  | (x :: _, _) => if x.1 = k then (some x, false) else (none, false)
  | ([], f) => (none, f)
def getP (t : Tb) (k : List Int) (s : Int) : Option Er × Bool := firstP k (goP t (k, s, false, []))
def underE (hi : List Int) (x : Er) : Bool := decide (hi = []) || decide (cmpL x.1 hi < 0)
def cutP (hi : List Int) (p : List Er × Bool) : List Er × Bool := (p.1.takeWhile (underE hi), p.2 && p.1.all (underE hi))
def rangeP (t : Tb) (lo hi : List Int) : List Er × Bool := cutP hi (goP t (lo, 9223372036854775807, false, []))
theorem find_drop {α : Type} (p : α → Bool) : ∀ (l : List α) (n : Nat), (∀ i x, i < n → l[i]? = some x → p x = false) → l.find? p = (l.drop n).find? p
  | _, 0, _ => rfl
  | [], n + 1, _ => rfl
  | x :: l, n + 1, h => by
    rw [List.drop_succ_cons, List.find?_cons_of_neg (by rw [h 0 x (by omega) rfl]; decide)]
    exact find_drop p l n (fun i y hi hy => h (i + 1) y (by omega) (by simpa using hy))
theorem getE_go {l : List Er} {k : List Int} {s : Int} (h : OrdL l) : firstP k (l.drop (seekN (k, s, false, []) l), false) = (getE l k s, false) := by
  have hd : getE l k s = (l.drop (seekN (k, s, false, []) l)).find? (fun x => decide (x.1 = k) && decide (x.2.1 ≤ s)) := find_drop _ l _ (fun i x hi hx => by
    have := seekN_under hi hx
    rw [ordE_lt] at this
    rcases this with h1 | ⟨h1, h2⟩
    · have : x.1 ≠ k := fun e => by
        have e' : cmpL x.1 k = -1 := h1
        rw [e, cmpL_self] at e'
        omega
      simp [this]
    · have h2' : s < x.2.1 := h2
      have : ¬ x.2.1 ≤ s := by omega
      simp [this])
  rw [hd]
  have hr := seekN_rest (e := (k, s, false, [])) h
  have ho := h.drop (seekN (k, s, false, []) l)
  generalize l.drop (seekN (k, s, false, []) l) = m at hr ho
  cases m with
  | nil => rfl
  | cons x m =>
    show (if x.1 = k then ((some x, false) : Option Er × Bool) else (none, false)) = _
    have hx := hr x (by simp)
    by_cases hk : x.1 = k
    · rw [if_pos hk, List.find?_cons_of_pos]
      have : x.2.1 ≤ s := by
        rw [ordE_lt] at hx
        have h2 : ¬ (x.1 = k ∧ s < x.2.1) := fun e => hx (.inr e)
        exact Int.not_lt.1 (fun e => h2 ⟨hk, e⟩)
      simp [hk, this]
    · rw [if_neg hk, List.find?_cons_of_neg (by simp [hk])]
      congr 1
      symm
      rw [List.find?_eq_none]
      intro y hy
      have h1 := OrdF.above ho.2 y hy
      have hky : y.1 ≠ k := fun e => by
        rw [ordE_lt] at h1 hx
        have h3 : cmpL x.1 k ≠ -1 := fun g => hx (.inl g)
        rw [e] at h1
        rcases h1 with g | ⟨g, -⟩
        · exact h3 g
        · exact hk g
      simp [hky]
theorem filter_while {p : Er → Bool} : ∀ {l : List Er}, OrdL l → (∀ x y, x ∈ l → y ∈ l → ordE x y < 0 → p x = false → p y = false) → l.filter p = l.takeWhile p
  | [], _, _ => rfl
  | x :: l, h, hp => by
    have ih := filter_while h.tail (fun a b ha hb => hp a b (by simp [ha]) (by simp [hb]))
    by_cases hx : p x = true
    · rw [List.filter_cons_of_pos hx, List.takeWhile_cons_of_pos hx, ih]
    · rw [List.takeWhile_cons_of_neg hx, List.filter_cons_of_neg hx, List.filter_eq_nil_iff]
      intro y hy
      have := hp x y (by simp) (by simp [hy]) (OrdF.above h.2 y hy) (by simpa using hx)
      rw [this]
      decide
theorem filter_drop {α : Type} (p : α → Bool) : ∀ (l : List α) (n : Nat), (∀ i x, i < n → l[i]? = some x → p x = false) → l.filter p = (l.drop n).filter p
  | _, 0, _ => rfl
  | [], n + 1, _ => rfl
  | x :: l, n + 1, h => by
    rw [List.drop_succ_cons, List.filter_cons_of_neg (by rw [h 0 x (by omega) rfl]; decide)]
    exact filter_drop p l n (fun i y hi hy => h (i + 1) y (by omega) (by simpa using hy))
theorem cmpL_up {a b c : List Int} (h : 0 ≤ cmpL a c) (g : cmpL a b = -1 ∨ a = b) : 0 ≤ cmpL b c := by
  rcases g with g | g
  · have k1 := cmpL_three b c
    rcases k1 with k | k | k
    · have := cmpL_back a b c g k
      omega
    · omega
    · omega
  · rw [← g]; exact h
theorem rangeE_go {l : List Er} {lo hi : List Int} (h : OrdL l) : cutP hi (l.drop (seekN (lo, 9223372036854775807, false, []) l), false) = (rangeE l lo hi, false) := by
  have hd : rangeE l lo hi = (l.drop (seekN (lo, 9223372036854775807, false, []) l)).filter (inE lo hi) := filter_drop _ l _ (fun i x hi2 hx => by
    have := seekN_under hi2 hx
    rw [ordE_lt] at this
    rcases this with h1 | ⟨h1, h2⟩
    · have h1' : cmpL x.1 lo = -1 := h1
      unfold inE
      rw [h1']
      rfl
    · have hg := (h.good x (List.mem_of_getElem? hx)).2.1.2
      have h2' : (9223372036854775807 : Int) < x.2.1 := h2
      omega)
  rw [hd]
  have hr := seekN_rest (e := (lo, 9223372036854775807, false, [])) h
  have ho := h.drop (seekN (lo, 9223372036854775807, false, []) l)
  generalize l.drop (seekN (lo, 9223372036854775807, false, []) l) = m at hr ho
  unfold cutP
  simp only [Bool.false_and]
  congr 1
  have e1 : m.filter (inE lo hi) = m.filter (underE hi) := List.filter_congr (fun x hx => by
    have h1 := hr x hx
    rw [ordE_lt] at h1
    have h3 : ¬ cmpL x.1 lo = -1 := fun g => h1 (.inl g)
    have h4 := cmpL_three x.1 lo
    unfold inE underE
    rw [show decide (0 ≤ cmpL x.1 lo) = true by simp; omega, Bool.true_and])
  rw [e1, filter_while ho]
  intro x y hx hy hxy hp
  unfold underE at hp ⊢
  simp only [Bool.or_eq_false_iff, decide_eq_false_iff_not, Int.not_lt] at hp ⊢
  refine ⟨hp.1, cmpL_up hp.2 ?_⟩
  rw [ordE_lt] at hxy
  exact hxy.imp id (fun k => k.1)
end Go.Proofs.YtmgggddnfeojmaaGreat
namespace Go.Proofs.YtmgggddnfeojmaaGreat
theorem bytesP_in {L : List Int} {a most : Int} (h : (bytesP L a most).2.2 = 0) : (uintP L a).2.2 = 0 ∧ ¬ (most < 0 ∨ most < (uintP L a).1) ∧ ¬ (L.length : Int) - (uintP L a).2.1 < (uintP L a).1 ∧ bytesP L a most = ((L.drop (uintP L a).2.1.toNat).take (uintP L a).1.toNat, (uintP L a).2.1 + (uintP L a).1, 0) := by
  unfold bytesP at h ⊢
  split at h
  · next h1 => exact absurd h h1
  · next h1 =>
    split at h
    · simp at h
    · next h2 =>
      split at h
      · simp at h
      · next h3 =>
        rw [if_neg h1, if_neg h2, if_neg h3]
        exact ⟨by simpa using h1, h2, h3, rfl⟩
theorem bytesP_end {L : List Int} {a most : Int} (hB : Byt L) (h : (bytesP L a most).2.2 = 0) : 0 ≤ (bytesP L a most).2.1 ∧ (bytesP L a most).2.1 ≤ L.length := by
  obtain ⟨h1, h2, h3, h4⟩ := bytesP_in h
  obtain ⟨b0, -, b2, -⟩ := uintP_bd L a hB
  have b3 := b2 h1
  rw [h4]
  simp only
  omega
end Go.Proofs.YtmgggddnfeojmaaGreat
namespace Go.Proofs.YtmgggddnfeojmaaGreat
/-- How a table's file is made up. -/
structure Parts (l : List Er) (size : Nat) (ps qs : List (List Er)) : Prop where
  cut : piecesE size l = ps
  qcut : piecesE 1024 (indexE ps) = qs
  flat : ps.flatten = l
  ok : ∀ p ∈ ps, PieceOk 1024 p ∧ ByL p
  ne : ps ≠ []
  qflat : qs.flatten = indexE ps
  qok : ∀ p ∈ qs, PieceOk 1024 p ∧ ByL p
  ql : qs.length ≤ l.length
  file : fileE l size = headT qs.length (lastE l) ++ (qs.flatMap frameE ++ ps.flatMap frameE)
  key : (lastE l).length ≤ 200 ∧ Byt (lastE l)
  ix : OrdL (indexE ps)
theorem pieces_few : ∀ (rs : List (List Er)), (∀ p ∈ rs, p ≠ []) → rs.length ≤ rs.flatten.length
  | [], _ => Nat.le_refl _
  | p :: rs, h => by
    have h3 := List.length_pos_iff.2 (h p (by simp))
    have h4 := pieces_few rs (fun q hq => h q (by simp [hq]))
    simp only [List.flatten_cons, List.length_append, List.length_cons]
    omega
theorem parts_of {l : List Er} {size : Nat} (ho : OrdL l) (hne : l ≠ []) (hB : ByL l) (h1 : 1 ≤ size) (h2 : size ≤ 1024) : ∃ ps qs, Parts l size ps qs := by
  obtain ⟨ps, hps⟩ : ∃ ps, piecesE size l = ps := ⟨_, rfl⟩
  have hflat : ps.flatten = l := hps ▸ pieces_flat h1 l.length l (Nat.le_refl _)
  have hok : ∀ p ∈ ps, PieceOk 1024 p := fun p hp => by
    obtain ⟨k1, k2, k3⟩ := pieces_ok h1 l.length l (Nat.le_refl _) ho p (hps ▸ hp)
    exact ⟨k1, by omega, k3⟩
  have hby : ∀ p ∈ ps, ByL p := fun p hp e he => hB e (by rw [← hflat]; exact List.mem_flatten.2 ⟨p, hp, he⟩)
  have hix := index_ord ps hok (by rw [hflat]; exact ho)
  have hib := index_byt hok hby (Nat.le_refl _)
  obtain ⟨qs, hqs⟩ : ∃ qs, piecesE 1024 (indexE ps) = qs := ⟨_, rfl⟩
  have hqf : qs.flatten = indexE ps := hqs ▸ pieces_flat (by decide) (indexE ps).length _ (Nat.le_refl _)
  have hqo : ∀ p ∈ qs, PieceOk 1024 p ∧ ByL p := fun p hp => ⟨pieces_ok (by decide) (indexE ps).length _ (Nat.le_refl _) hix p (hqs ▸ hp), fun e he => hib e (by rw [← hqf]; exact List.mem_flatten.2 ⟨p, hp, he⟩)⟩
  have hpl := pieces_few ps (fun p hp => (hok p hp).1)
  have hql := pieces_few qs (fun p hp => (hqo p hp).1.1)
  rw [hflat] at hpl
  rw [hqf] at hql
  have hlast : ∃ e, l.getLast? = some e ∧ e ∈ l := by
    cases h : l.getLast? with
    | none => exact absurd (List.getLast?_eq_none_iff.1 h) hne
    | some e => exact ⟨e, rfl, List.mem_of_getLast? h⟩
  obtain ⟨z, hz, hzm⟩ := hlast
  have hK : lastE l = z.1 := by unfold lastE; rw [hz]
  refine ⟨ps, qs, hps, hqs, hflat, fun p hp => ⟨hok p hp, hby p hp⟩, fun e => hne (by rw [← hflat, e]; rfl), hqf, hqo, ?_, by unfold fileE; rw [hps, hqs], by rw [hK]; exact ⟨(ho.good z hzm).1.2, (hB z hzm).1⟩, hix⟩
  have : (indexE ps).length = ps.length := by simp [indexE]
  omega
end Go.Proofs.YtmgggddnfeojmaaGreat
namespace Go.Proofs.YtmgggddnfeojmaaGreat
open Go.RowKit
/-- While a row grows, rows of other elements stay. -/
theorem own_apart {w w' : World} {B D : Nat} {e1 e2 : TypeId} {s1 s2 : Nat} {A C : Option Addr} {n c m d n' m' : Nat} {xs ys : List Value} (h : w.ownsRow B e1 s1 (.slice A n c) n' xs) (hs : w.ownsRow D e2 s2 (.slice C m d) m' ys) (hne : e1 ≠ e2) (hg : w.grownBy w' (Value.slice C m d).ownBlock) : w'.ownsRow B e1 s1 (.slice A n c) n' xs := by
  refine ⟨h.1, ?_⟩
  rcases h.2 with hn | ⟨g, cap, cur, e1', h1, h2, h3⟩
  · exact .inl hn
  · refine .inr ⟨g, cap, cur, e1', h1, ?_, h3⟩
    have hlt : g < w.heap.size := (Array.getElem?_eq_some_iff.1 h2).1
    rw [hg.block g hlt, h2]
    intro e
    rcases hs.2 with ⟨hn, _⟩ | ⟨g', cap', cur', e', _, h2', _⟩
    · rw [hn] at e
      simp [Value.ownBlock] at e
    · rw [e'] at e
      obtain rfl : g = g' := by simpa [Value.ownBlock] using e
      rw [h2] at h2'
      injection h2' with h2'
      injection h2' with _ h2'
      exact hne h2'
theorem wpList_append_placed (w : World) {ops : Array Oper} {rest : List Oper} {o : Oper} {a : Act} {Q : Exit → Act → World → Prop} (hgd : o.guard = none) (s x : Operand)
    (ho : o.op = .call { callee := .builtin .append, args := #[s, x], argTypes := #[42, 42] })
    (B : Nat) (A : Option Addr) (c : Nat) (L M : List Int) (C : Option Addr) (n m cm : Nat) (hs : a.eval s = .slice A n c) (hx : a.eval x = .slice C m cm) (en : L.length = n) (em : M.length = m) (h : Row w B A c L) (hm : Bys w C M) (hB : B ≤ w.heap.size) (hr : L.length + M.length ≤ 140737488355328)
    (k : ∀ A' c' w', Row w' B A' c' (L ++ M) → Below B w w' → w.grownBy w' (Value.slice A n c).ownBlock → (∀ ad, A' = some ad → (∃ a0, A = some a0 ∧ ad.block = a0.block) ∨ w.heap.size ≤ ad.block) → wpList Tryz.prog ops Q rest (a.put o.dst (.slice A' (n + m) c')) w') : wpList Tryz.prog ops Q (o :: rest) a w := by
  subst en
  subst em
  refine wpList_plain hgd fun K hK => ?_
  obtain ⟨A', c', w', r, h2, h3, h4, h5⟩ := row_placed w o.type B A c L M C cm h hm hB hr
  have k' := k A' c' w' h2 h3 h4 h5
  unfold Oper.wp execOp
  simp only [ho, resolve, invoke, builtin, Sem.run_bind, Sem.run_pure, Result.andThen_ok, List.map_toArray, List.map_cons, List.map_nil, hs, hx, r]
  exact hK _ _ k'
/-- Pairs whose keys can be read and whose values are rows of the call's own, none in the block of a row that grows. -/
def MadeV (w : World) (B : Nat) (C : Option Addr) (T : List Bp) : Prop := ∀ q ∈ T, Row w B q.v.a q.v.c q.v.l ∧ Byt q.v.l ∧ ∀ ad cd, q.v.a = some ad → C = some cd → ad.block ≠ cd.block
theorem MadeV.nil (w : World) (B : Nat) (C : Option Addr) : MadeV w B C [] := fun _ h => by cases h
theorem MadeV.kept {w w' : World} {B D : Nat} {C : Option Addr} {T : List Bp} (h : MadeV w B C T) (hb : Below D w w') (hD : w.heap.size ≤ D) : MadeV w' B C T := fun q hq => ⟨(h q hq).1.kept hb hD, (h q hq).2⟩
theorem MadeV.grown {w w' : World} {B : Nat} {C C' : Option Addr} {c n : Nat} {T : List Bp} (h : MadeV w B C T) (hg : w.grownBy w' (Value.slice C n c).ownBlock) (hp : ∀ ad, C' = some ad → (∃ a0, C = some a0 ∧ ad.block = a0.block) ∨ w.heap.size ≤ ad.block) : MadeV w' B C' T := fun q hq => by
  obtain ⟨h1, h2, h3⟩ := h q hq
  refine ⟨own_far h1 hg (fun ad hA cd hC => h3 cd ad hC hA), h2, fun ad cd ha hc => ?_⟩
  rcases hp cd hc with ⟨a0, e1, e2⟩ | hlt
  · rw [e2]
    exact h3 ad a0 ha e1
  · have := (own_in h1 ad ha).2
    omega
theorem MadeV.beside {w w' : World} {B D : Nat} {C P : Option Addr} {d : Nat} {T U : List Bp} (h : MadeV w B C T) (hs : Prow w D P d U) (hg : w.grownBy w' (Value.slice P U.length d).ownBlock) : MadeV w' B C T := fun q hq => ⟨(h q hq).1.besideP hs hg, (h q hq).2⟩
theorem MadeV.snoc {w : World} {B : Nat} {C : Option Addr} {T : List Bp} {q : Bp} (h : MadeV w B C T) (h1 : Row w B q.v.a q.v.c q.v.l) (h2 : Byt q.v.l) (h3 : ∀ ad cd, q.v.a = some ad → C = some cd → ad.block ≠ cd.block) : MadeV w B C (T ++ [q]) := fun x hx => by
  rcases List.mem_append.1 hx with hx | hx
  · exact h x hx
  · rw [List.mem_singleton] at hx
    subst hx
    exact ⟨h1, h2, h3⟩
theorem pk_more {B : Nat} {w1 w2 W w8 : World} {A3 A4 : Option Addr} {c3 c4 tn : Nat} {T : List Bp} {V : List Int} {q : Bp} (b8 : W.grownBy w8 (Value.slice A3 tn c3).ownBlock) (ht : T.length = tn) (hP : Prow w1 B A3 c3 T) (hR : Row w1 B A4 c4 V) (hM : MadeV w1 B A4 T) (h2 : Row w2 B q.v.a q.v.c q.v.l) (hy : Byt q.v.l) (hf : ∀ ad, q.v.a = some ad → w1.heap.size ≤ ad.block) (hW : Below w1.heap.size w1 W) (hW2 : Below w2.heap.size w2 W) : Row w8 B A4 c4 V ∧ MadeV w8 B A4 (T ++ [q]) := by
  subst ht
  have hP' := hP.kept hW (Nat.le_refl _)
  refine ⟨(hR.kept hW (Nat.le_refl _)).besideP hP' b8, ((hM.kept hW (Nat.le_refl _)).beside hP' b8).snoc ((h2.kept hW2 (Nat.le_refl _)).besideP hP' b8) hy (fun ad cd ha hc => ?_)⟩
  have h3 := hf ad ha
  have h4 := (own_in hR cd hc).2
  omega
/-- What stands behind some of the keys of a block. -/
structure PkS (l : List En) (T : List Bp) (V : List Int) (l' : List En) : Prop where
  pr : pairsE (ers l) = rds T ++ pairsE (ers l')
  vs : versE (ers l) = V ++ versE (ers l')
  rest : ∀ q ∈ l', q ∈ l
  keys : ∀ p ∈ T, ∃ q ∈ l, p.k = q.k
theorem PkS.step {l : List En} {T : List Bp} {V : List Int} {x : En} {m : List En} {r : Nat} {A : Option Addr} {c : Nat} (h : PkS l T V (x :: m)) (hr : runN x.k.l (ers (x :: m)) = r) : PkS l (T ++ [⟨x.k, ⟨A, c, digs (r : Nat)⟩⟩]) (V ++ versE (ers ((x :: m).take r))) ((x :: m).drop r) := by
  refine ⟨?_, ?_, fun q hq => h.rest q (List.mem_of_mem_drop hq), ?_⟩
  · rw [h.pr, rds_append, List.append_assoc, ers_drop]
    have e := pairsE_cons x.rd (ers m)
    rw [show x.rd :: ers m = ers (x :: m) from rfl, show x.rd.1 = x.k.l from rfl, hr] at e
    rw [e]
    simp [rds, Bp.rd]
  · rw [h.vs, List.append_assoc, ← versE_append, ← ers_append, List.take_append_drop]
  · intro p hp
    rcases List.mem_append.1 hp with hp | hp
    · exact h.keys p hp
    · rw [List.mem_singleton] at hp
      subst hp
      exact ⟨x, h.rest x (by simp), rfl⟩
theorem vers_more {V Vi ve : List Int} {l : List En} {k : Nat} {y : En} (h : Vi = V ++ versE (ers (l.take k))) (hy : l[k]? = some y) (hv : verE y.rd = ve) : Vi ++ ve = V ++ versE (ers (l.take (k + 1))) := by
  rw [h, ← hv, List.take_add_one, hy, ers_append, versE_append, List.append_assoc]
  simp [ers, versE]
theorem PkS.pairs {l : List En} {T : List Bp} {V : List Int} (h : PkS l T V []) : rds T = pairsE (ers l) ∧ V = versE (ers l) := by
  have h1 := h.pr
  have h2 := h.vs
  rw [show pairsE (ers []) = [] from rfl, List.append_nil] at h1
  rw [show versE (ers []) = [] from rfl, List.append_nil] at h2
  exact ⟨h1.symm, h2.symm⟩
theorem PkS.few {l : List En} {T : List Bp} {V : List Int} {l' : List En} (h : PkS l T V l') : T.length ≤ l.length ∧ V.length ≤ (versE (ers l)).length := by
  refine ⟨?_, by rw [h.vs]; simp⟩
  have := (pairs_size (ers l).length (ers l) (Nat.le_refl _)).2
  rw [h.pr, ers_len, List.length_append, rds_len] at this
  omega
theorem PkS.ins {w : World} {B : Nat} {C : Option Addr} {l : List En} {T : List Bp} {V : List Int} {l' : List En} (h : PkS l T V l') (hi : EIns w l) (hm : MadeV w B C T) : Ins w T := fun p hp => by
  obtain ⟨q, hq, e⟩ := h.keys p hp
  exact ⟨e ▸ (hi q hq).1, (hm p hp).1.in_ (hm p hp).2.1⟩
end Go.Proofs.YtmgggddnfeojmaaGreat
