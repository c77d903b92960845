/-
  What the document's own reading comes to; the law on texts.
-/
import Derived.Test.YtefkabkncmflpaaDoorTextP
import Derived.Test.YtefkabkncmflpaaDoorLawA
namespace Go.Proofs.YtefkabkncmflpaaDoor
open Go.RowKit

theorem numTo_digs (l : List UInt8) : ∀ n, n ≤ l.length → (∀ c ∈ l, dg c) → 0 ≤ numTo l n ∧ (numTo l n = 0 → ∀ i (h : i < l.length), i < n → l[i] = 48)
  | 0, _, _ => ⟨Int.le_refl 0, fun _ i _ h => by omega⟩
  | n + 1, hn, hd => by
    obtain ⟨a, b⟩ := numTo_digs l n (by omega) hd
    have hl : n < l.length := by omega
    have hc := hd l[n] (List.getElem_mem hl)
    have e : l.getD n 0 = l[n] := by rw [List.getD_eq_getElem?_getD, List.getElem?_eq_getElem hl]; rfl
    rw [numTo, e]
    obtain ⟨c1, c2⟩ := hc
    refine ⟨by omega, fun hz i hi hin => ?_⟩
    by_cases x : i = n
    · subst x
      apply UInt8.toNat_inj.mp
      have : (48 : UInt8).toNat = 48 := rfl
      omega
    · exact b (by omega) i hi (by omega)

theorem numSkip_cut (a b : List UInt8) : ∀ i, i ≤ (a ++ 46 :: b).length → numSkip (a ++ 46 :: b) a.length i = if i ≤ a.length then numTo (a ++ b) i else numTo (a ++ b) (i - 1)
  | 0, _ => by simp [numSkip, numTo]
  | i + 1, h => by
    have ih := numSkip_cut a b i (by omega)
    rw [numSkip]
    by_cases e : i = a.length
    · rw [if_pos e, ih, if_pos (by omega), if_neg (by omega)]
      rfl
    · rw [if_neg e, ih]
      by_cases g : i < a.length
      · rw [if_pos (by omega), if_pos (by omega), numTo]
        rw [List.getD_eq_getElem?_getD, List.getElem?_append_left g, List.getD_eq_getElem?_getD, List.getElem?_append_left g]
      · rw [if_neg (by omega), if_neg (by omega)]
        obtain ⟨j, rfl⟩ : ∃ j, i = j + 1 := ⟨i - 1, by omega⟩
        rw [show j + 1 + 1 - 1 = j + 1 from rfl, show j + 1 - 1 = j from rfl, numTo]
        have : (a ++ 46 :: b).getD (j + 1) 0 = (a ++ b).getD j 0 := by
          rw [List.getD_eq_getElem?_getD, List.getElem?_append_right (by omega), List.getD_eq_getElem?_getD, List.getElem?_append_right (by omega), show j + 1 - a.length = (j - a.length) + 1 by omega, List.getElem?_cons_succ]
        rw [this]

theorem back_fin (x : Int) (neg : Bool) (h : ¬ (neg = true ∧ x = 0)) : backRes x neg = finV x neg := by
  unfold finV
  rw [if_neg h]
  cases neg
  · by_cases g : x ≤ 9223372036854775807
    · simp [backRes, backV, signV, g]
    · simp [backRes, backV, signV, g]
  · by_cases g : x ≤ 9223372036854775808
    · simp [backRes, backV, signV, g]
    · simp [backRes, backV, signV, g]

theorem byte_of {c : UInt8} {n : Nat} (h : (c.toNat : Int) = n) (hn : n < 256) : c = UInt8.ofNat n := by
  apply UInt8.toNat_inj.mp
  rw [UInt8.toNat_ofNat']; omega
theorem arr_get (dl : List UInt8) (i : Nat) (h : i < (ByteArray.mk dl.toArray).size) : (ByteArray.mk dl.toArray)[i] = dl[i]'h := rfl

/-- A text of the form has it at the third place from its end. -/
theorem Form.cut {wh pt : List UInt8} (h : Form wh pt) (n : Nat) (hn : (wh ++ 46 :: pt).length - 3 = n) : n = wh.length ∧ (wh ++ 46 :: pt).length = wh.length + 3 := by
  have := h.p2
  simp at hn ⊢
  omega
theorem cut_three (dl : List UInt8) (k : Nat) (h : k < dl.length) (_hk : dl.length = k + 3) (h46 : dl[k] = 46) : dl = dl.take k ++ 46 :: dl.drop (k + 1) := by
  have := List.take_append_drop k dl
  rw [List.drop_eq_getElem_cons h, h46] at this
  exact this.symm

theorem early_reads {s : List UInt8} {dl : List UInt8} {neg : Bool} (hl : s = mark neg ++ dl) (hn : neg = false → dl.head? ≠ some 45) (hE : Early ⟨dl.toArray⟩ neg) : ReadsTo s 0 7 := by
  by_cases z : neg = true ∧ dl = [48, 46, 48, 48]
  · obtain ⟨rfl, rfl⟩ := z
    refine Or.inl ⟨true, [48], [48, 48], hl, ⟨by decide, by decide, ?_, Or.inr rfl, rfl, ?_⟩, rfl⟩
    · intro c hc
      rw [List.mem_singleton.mp hc]; exact ⟨by decide, by decide⟩
    · intro c hc
      have : c = 48 := by simpa using hc
      rw [this]; exact ⟨by decide, by decide⟩
  · refine Or.inr ⟨?_, rfl, rfl⟩
    rintro ⟨neg', wh, pt, h, hf⟩
    obtain ⟨rfl, h2⟩ := sgn_one (hl.symm.trans h) hn hf
    obtain ⟨c1, c2⟩ := hf.cut _ rfl
    rw [← h2] at c1 c2
    have w1 := hf.w1
    have w17 := hf.w17
    have hsz : (ByteArray.mk dl.toArray).size = dl.length := rfl
    rcases hE with e | e | ⟨e, e'⟩ | ⟨e, e'⟩ | ⟨e, e'⟩
    · rw [hsz] at e; omega
    · rw [hsz] at e; omega
    · apply e'
      have : (ByteArray.mk dl.toArray)[(ByteArray.mk dl.toArray).size - 3]'(by rw [hsz]; omega) = 46 := by
        show dl[dl.length - 3]'(by omega) = 46
        have hg : dl[dl.length - 3]? = some 46 := by
          rw [c1, h2, List.getElem?_append_right (Nat.le_refl _)]; simp
        rw [List.getElem?_eq_getElem (by omega)] at hg
        exact Option.some.inj hg
      rw [this]; rfl
    · rw [hsz] at e
      have h0 := hf.w0
      rcases h0 with h0 | h0
      · apply h0
        match wh, w1 with
        | c :: wh', _ =>
          have : (ByteArray.mk dl.toArray)[0]'(by rw [hsz]; omega) = c := by
            show dl[0]'(by omega) = c
            subst h2; rfl
          rw [this] at e'
          rw [byte_of (c := c) (n := 48) (by simpa using e') (by decide)]
          rfl
      · omega
    · exact z ⟨e, by
        have := congrArg (fun b : ByteArray => b.data.toList) e'
        simpa using this⟩

theorem late_reads {s : List UInt8} {dl : List UInt8} {neg : Bool} {k : Nat} {v er : Int} (hl : s = mark neg ++ dl) (hn : neg = false → dl.head? ≠ some 45) (hE : ¬ Early ⟨dl.toArray⟩ neg) (hk : (ByteArray.mk dl.toArray).size - 3 = k)
    (hL : Late ⟨dl.toArray⟩ k neg v er) : ReadsTo s v er := by
  have hsz : (ByteArray.mk dl.toArray).size = dl.length := rfl
  rw [hsz] at hk
  have h4 : 4 ≤ dl.length := by
    apply Classical.byContradiction; intro h; exact hE (Or.inl (by rw [hsz]; omega))
  have h20 : dl.length ≤ 20 := by
    apply Classical.byContradiction; intro h; exact hE (Or.inr (Or.inl (by rw [hsz]; omega)))
  have hkl : k < dl.length := by omega
  have h46 : dl[k] = 46 := by
    apply Classical.byContradiction
    intro h
    refine hE (Or.inr (Or.inr (Or.inl ⟨by rw [hsz]; exact h4, fun e => h ?_⟩)))
    have e2 : ((dl[k]).toNat : Int) = (46 : Nat) := by
      have : (ByteArray.mk dl.toArray)[(ByteArray.mk dl.toArray).size - 3]'(by rw [hsz]; omega) = dl[k] := by
        subst hk; rfl
      rw [this] at e; exact e
    exact byte_of e2 (by decide)
  have hc := cut_three dl k hkl (by omega) h46
  rcases hL with ⟨⟨j, hj, hjk, hbad⟩, rfl, rfl⟩ | ⟨hall, hv⟩
  · refine Or.inr ⟨?_, rfl, rfl⟩
    rintro ⟨neg', wh, pt, h, hf⟩
    obtain ⟨rfl, h2⟩ := sgn_one (hl.symm.trans h) hn hf
    obtain ⟨c1, c2⟩ := hf.cut _ rfl
    rw [← h2, hk] at c1
    apply hbad
    show dg (dl[j]'hj)
    have hg : dl[j]? = some (dl[j]'hj) := List.getElem?_eq_getElem hj
    by_cases x : j < wh.length
    · have : dl[j]? = wh[j]? := by rw [h2, List.getElem?_append_left x]
      rw [hg] at this
      exact hf.wd _ (List.mem_of_getElem? this.symm)
    · have : dl[j]? = pt[j - wh.length - 1]? := by
        rw [h2, List.getElem?_append_right (by omega)]
        obtain ⟨i, hi⟩ : ∃ i, j - wh.length = i + 1 := ⟨j - wh.length - 1, by omega⟩
        rw [hi, List.getElem?_cons_succ]; rfl
      rw [hg] at this
      exact hf.pd _ (List.mem_of_getElem? this.symm)
  · have hd : ∀ i (h : i < dl.length), i ≠ k → dg (dl[i]) := fun i h hne => hall i h hne
    have hlt : (dl.take k).length = k := by simp; omega
    have hfm : Form (dl.take k) (dl.drop (k + 1)) := by
      refine ⟨by omega, by omega, ?_, ?_, by simp; omega, ?_⟩
      · intro c hcm
        obtain ⟨i, hi, rfl⟩ := List.getElem_of_mem hcm
        rw [List.getElem_take]
        exact hd i (by rw [hlt] at hi; omega) (by rw [hlt] at hi; omega)
      · by_cases x : k = 1
        · right; omega
        · left
          intro h0
          refine hE (Or.inr (Or.inr (Or.inr (Or.inl ⟨by rw [hsz]; omega, ?_⟩))))
          show ((dl[0]'(by omega)).toNat : Int) = 48
          have : (dl.take k).head? = dl[0]? := by
            rw [List.head?_eq_getElem?, List.getElem?_take_of_lt (by omega)]
          rw [this, List.getElem?_eq_getElem (by omega)] at h0
          rw [Option.some.inj h0]; rfl
      · intro c hcm
        obtain ⟨i, hi, rfl⟩ := List.getElem_of_mem hcm
        rw [List.getElem_drop]
        exact hd _ (by simp at hi; omega) (by omega)
    refine Or.inl ⟨neg, dl.take k, dl.drop (k + 1), by rw [hl, ← hc], hfm, ?_⟩
    have hns : numSkip dl k dl.length = numTo (dl.take k ++ dl.drop (k + 1)) (dl.take k ++ dl.drop (k + 1)).length := by
      have e := numSkip_cut (dl.take k) (dl.drop (k + 1)) dl.length (by rw [← hc]; exact Nat.le_refl _)
      rw [← hc, hlt, if_neg (by omega)] at e
      rw [e]
      congr 1
      simp; omega
    have hv' : (v, er) = backRes (numTo (dl.take k ++ dl.drop (k + 1)) (dl.take k ++ dl.drop (k + 1)).length) neg := by
      rw [← hns]; exact hv
    rw [hv']
    refine back_fin _ _ ?_
    rintro ⟨rfl, hz⟩
    have hall2 : ∀ c ∈ dl.take k ++ dl.drop (k + 1), dg c := fun c hcm => by
      rcases List.mem_append.mp hcm with h | h
      · exact hfm.wd c h
      · exact hfm.pd c h
    have all48 := (numTo_digs _ _ (Nat.le_refl _) hall2).2 hz
    have lenE : (dl.take k ++ dl.drop (k + 1)).length = k + 2 := by simp; omega
    have at48 : ∀ i (h : i < (dl.take k ++ dl.drop (k + 1)).length), (dl.take k ++ dl.drop (k + 1))[i] = 48 := fun i h => all48 i h h
    have k1 : k = 1 := by
      have h0 := at48 0 (by omega)
      rcases hfm.w0 with h | h
      · exfalso
        apply h
        rw [List.head?_eq_getElem?, List.getElem?_eq_getElem (by omega)]
        rw [List.getElem_append_left (by omega)] at h0
        rw [h0]
      · omega
    subst k1
    apply hE
    refine Or.inr (Or.inr (Or.inr (Or.inr ⟨rfl, ?_⟩)))
    have len4 : dl.length = 4 := by omega
    have g1 : dl[1]? = some 46 := by rw [List.getElem?_eq_getElem hkl, h46]
    have gs : ∀ i, i < 3 → (dl.take 1 ++ dl.drop 2)[i]? = some 48 := fun i h => by
      have hi : i < (dl.take 1 ++ dl.drop (1 + 1)).length := by rw [lenE]; omega
      rw [List.getElem?_eq_getElem hi, at48 i hi]
    clear at48 all48 h46 lenE hall2 hz hv' hns hfm hlt hd hv hall hc hkl hE hk
    clear hl hn h4 h20 hsz
    match dl, len4, g1, gs with
    | [a, b, c, d], _, g1, gs =>
      have ea : a = 48 := Option.some.inj (gs 0 (by omega))
      have ec : c = 48 := Option.some.inj (gs 1 (by omega))
      have ed : d = 48 := Option.some.inj (gs 2 (by omega))
      have eb : b = 46 := Option.some.inj g1
      rw [ea, eb, ec, ed]

theorem refRead_any (s : ByteArray) (w : World) (hs : s.size ≤ 9223372036854775807) :
    Calls Tryd.prog 26 #[.string s] w fun e w' => ∃ v er, e = .returned (.tuple #[.int .i64 v, .int .i64 er]) ∧ ReadsTo s.data.toList v er ∧ Below w.heap.size w w' := by
  obtain ⟨neg, dl, hl, hn, _⟩ := prefix_split s
  have hO : Off s ⟨dl.toArray⟩ neg := by
    unfold Off
    cases neg
    · rw [if_neg (by simp)]
      have e : s = ⟨dl.toArray⟩ := by
        apply ByteArray.ext
        apply Array.toList_inj.mp
        rw [hl]; rfl
      refine ⟨e, fun h h45 => hn rfl ?_⟩
      have h' : 0 < dl.length := h
      rw [List.head?_eq_getElem?, List.getElem?_eq_getElem h']
      rw [byte_of (c := dl[0]) (n := 45) h45 (by decide)]
      rfl
    · rw [if_pos rfl]
      have hsz : s.size = s.data.toList.length := Lib.size_eq s
      have h0 : 0 < s.size := by rw [hsz, hl]; simp [mark]
      refine ⟨h0, ?_, ?_⟩
      · have : s[0] = 45 := by
          show s.data[0]'h0 = 45
          have hg : s.data.toList[0]? = some 45 := by rw [hl]; rfl
          rw [Array.getElem?_toList, Array.getElem?_eq_getElem h0] at hg
          exact Option.some.inj hg
        rw [this]; rfl
      · apply ByteArray.ext
        apply Array.toList_inj.mp
        rw [Lib.extract_data, hl]
        simp [mark]
        exact List.take_of_length_le (by rw [hsz, hl]; simp [mark])
  by_cases hE : Early ⟨dl.toArray⟩ neg
  · refine (refRead_early s _ neg w hO hs hE).mono ?_
    rintro e w' ⟨rfl, hb⟩
    exact ⟨0, 7, rfl, early_reads hl hn hE, hb⟩
  · have key : Calls Tryd.prog 26 #[.string s] w fun e w' => ∃ v er, e = .returned (.tuple #[.int .i64 v, .int .i64 er]) ∧ Late ⟨dl.toArray⟩ ((ByteArray.mk dl.toArray).size - 3) neg v er ∧ Below w.heap.size w w' := by
      cases neg
      · obtain ⟨he, hc⟩ : s = ⟨dl.toArray⟩ ∧ ∀ h : 0 < (ByteArray.mk dl.toArray).size, ((ByteArray.mk dl.toArray)[0].toNat : Int) ≠ 45 := hO
        rw [he]
        exact refRead_late_plus _ _ w hc hE rfl
      · obtain ⟨h, hc, hd⟩ : ∃ h : 0 < s.size, (s[0].toNat : Int) = 45 ∧ s.extract 1 s.size = ⟨dl.toArray⟩ := hO
        exact refRead_late_minus s _ _ w h hc hd hs hE rfl
    refine key.mono ?_
    rintro e w' ⟨v, er, rfl, hL, hb⟩
    exact ⟨v, er, rfl, late_reads hl hn hE rfl hL, hb⟩

end Go.Proofs.YtefkabkncmflpaaDoor
