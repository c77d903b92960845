/-
  What an amount's text is and what is read of it: there and back, by lists of bytes alone.
-/
import Derived.Test.YtefkabkncmflpaaDoorTexts
import Derived.Test.YtefkabkncmflpaaDoorRefRed
namespace Go.Proofs.YtefkabkncmflpaaDoor
open Go.RowKit

theorem numTo_left (a b : List UInt8) : ∀ k, k ≤ a.length → numTo (a ++ b) k = numTo a k
  | 0, _ => rfl
  | k + 1, h => by
    rw [numTo, numTo, numTo_left a b k (by omega)]
    rw [List.getD_eq_getElem?_getD, List.getElem?_append_left (by omega), ← List.getD_eq_getElem?_getD]
theorem numTo_snoc (l : List UInt8) (c : UInt8) : numTo (l ++ [c]) (l ++ [c]).length = numTo l l.length * 10 + ((c.toNat : Int) - 48) := by
  rw [List.length_append, List.length_singleton, numTo, numTo_left l [c] l.length (Nat.le_refl _)]
  rw [List.getD_eq_getElem?_getD, List.getElem?_append_right (Nat.le_refl _)]
  simp
theorem digit_byte (d : Nat) (h : d < 10) : ((UInt8.ofNat (48 + d)).toNat : Int) = 48 + d := by
  rw [UInt8.toNat_ofNat']; omega
theorem byte_digit (c : UInt8) (h : dg c) : UInt8.ofNat (48 + ((c.toNat : Int) - 48).toNat) = c := by
  obtain ⟨h1, h2⟩ := h
  apply UInt8.toNat_inj.mp
  rw [UInt8.toNat_ofNat']; omega
theorem dg_digit (d : Nat) (h : d < 10) : dg (UInt8.ofNat (48 + d)) := by
  unfold dg; rw [digit_byte d h]; omega

theorem num_dec : ∀ u : Nat, numTo (Lib.decDigits u) (Lib.decDigits u).length = u := by
  intro u
  induction u using Nat.strongRecOn with
  | _ u ih =>
    by_cases h : u < 10
    · rw [Lib.decDigits_one h]
      show (0 : Int) * 10 + _ = _
      have := digit_byte u h
      simp only [List.getD_cons_zero]
      omega
    · rw [decDigits_step h, numTo_snoc, ih (u / 10) (by omega), digit_byte _ (by omega)]
      omega
theorem dec_dg : ∀ u : Nat, ∀ c ∈ Lib.decDigits u, dg c := by
  intro u
  induction u using Nat.strongRecOn with
  | _ u ih =>
    intro c hc
    by_cases h : u < 10
    · rw [Lib.decDigits_one h] at hc
      rw [List.mem_singleton.mp hc]
      exact dg_digit u h
    · rw [decDigits_step h] at hc
      rcases List.mem_append.mp hc with hc | hc
      · exact ih (u / 10) (by omega) c hc
      · rw [List.mem_singleton.mp hc]
        exact dg_digit _ (by omega)
theorem dec_head : ∀ u : Nat, 1 ≤ u → (Lib.decDigits u).head? ≠ some 48 := by
  intro u
  induction u using Nat.strongRecOn with
  | _ u ih =>
    intro hu
    by_cases h : u < 10
    · rw [Lib.decDigits_one h]
      intro e
      have e' : UInt8.ofNat (48 + u) = 48 := by simpa using e
      have := digit_byte u h
      rw [e'] at this
      have h48 : ((48 : UInt8).toNat : Int) = 48 := rfl
      omega
    · rw [decDigits_step h, List.head?_append]
      have := ih (u / 10) (by omega) (by omega)
      match hd : Lib.decDigits (u / 10) with
      | [] =>
        have hl := Lib.decDigits_length (u / 10)
        rw [hd] at hl
        have := Lib.nDigits_pos (u / 10)
        simp at hl; omega
      | c :: l => rw [hd] at this; simpa using this
theorem nDigits_small17 (u : Nat) (h : u < 100000000000000000) : Lib.nDigits u ≤ 17 := nDigits_le u 17 (by omega) h

theorem dec_num : ∀ (n : Nat) (l : List UInt8), l.length = n → l ≠ [] → (∀ c ∈ l, dg c) → (l.head? ≠ some 48 ∨ l.length = 1) → 0 ≤ numTo l l.length ∧ Lib.decDigits (numTo l l.length).toNat = l := by
  intro n
  induction n with
  | zero => intro l h hne; exact absurd (List.length_eq_zero_iff.mp h) hne
  | succ n ih =>
    intro l h hne hd hz
    rcases List.eq_nil_or_concat l with rfl | ⟨L, c, rfl⟩
    · exact absurd rfl hne
    · rw [List.concat_eq_append] at *
      have hc : dg c := hd c (by simp)
      rw [numTo_snoc]
      by_cases hL : L = []
      · subst hL
        have e : numTo ([] : List UInt8) ([] : List UInt8).length = 0 := rfl
        rw [e]
        obtain ⟨c1, c2⟩ := hc
        refine ⟨by omega, ?_⟩
        rw [Lib.decDigits_one (by omega)]
        have := byte_digit c ⟨c1, c2⟩
        rw [show (0 * 10 + ((c.toNat : Int) - 48)) = (c.toNat : Int) - 48 by omega, this]
        rfl
      · have hlen : L.length = n := by simpa using h
        have hh : L.head? ≠ some 48 := by
          rcases hz with hz | hz
          · match L, hL with
            | a :: t, _ => simpa using hz
          · exfalso
            have : L.length = 0 := by simpa using hz
            exact hL (List.length_eq_zero_iff.mp this)
        obtain ⟨p0, p1⟩ := ih L hlen hL (fun x hx => hd x (by simp [hx])) (Or.inl hh)
        have pos : 1 ≤ numTo L L.length := by
          apply Classical.byContradiction
          intro hn
          have z : numTo L L.length = 0 := by omega
          rw [z] at p1
          rw [← p1, show Lib.decDigits (Int.toNat 0) = [48] from Lib.decDigits_one (by decide)] at hh
          exact hh rfl
        generalize numTo L L.length = W at *
        obtain ⟨c1, c2⟩ := hc
        refine ⟨by omega, ?_⟩
        rw [decDigits_step (u := (W * 10 + ((c.toNat : Int) - 48)).toNat) (by omega)]
        rw [show (W * 10 + ((c.toNat : Int) - 48)).toNat / 10 = W.toNat by omega, p1, show (W * 10 + ((c.toNat : Int) - 48)).toNat % 10 = ((c.toNat : Int) - 48).toNat by omega, byte_digit c ⟨c1, c2⟩]

theorem numTo_two (l : List UInt8) (p q : UInt8) : numTo (l ++ [p, q]) (l ++ [p, q]).length = (numTo l l.length * 10 + ((p.toNat : Int) - 48)) * 10 + ((q.toNat : Int) - 48) := by
  have e : l ++ [p, q] = (l ++ [p]) ++ [q] := by simp
  rw [e, numTo_snoc, numTo_snoc]

theorem mark_if (v : Int) : (if v < 0 then [45] else []) = mark (decide (v < 0)) := by
  unfold mark
  by_cases h : v < 0
  · rw [if_pos h, decide_eq_true h]; rfl
  · rw [if_neg h, decide_eq_false h]; rfl

/-- What was written is read. -/
theorem reads_text (v : Int) (h0 : -9223372036854775808 ≤ v) (h1 : v ≤ 9223372036854775807) : ReadsTo (textOf v) v 0 := by
  obtain ⟨S, hS⟩ : ∃ S : Nat, size v = S := ⟨v.natAbs, rfl⟩
  have hs : S ≤ 9223372036854775808 := by unfold size at hS; omega
  have hl := Lib.decDigits_length (S / 100)
  refine Or.inl ⟨decide (v < 0), Lib.decDigits (S / 100), [UInt8.ofNat (48 + S / 10 % 10), UInt8.ofNat (48 + S % 10)], ?_, ?_, ?_⟩
  · unfold textOf
    rw [hS, mark_if, Int.toNat_natCast]
  · refine ⟨by rw [hl]; exact Lib.nDigits_pos _, by rw [hl]; exact nDigits_small17 _ (by omega), dec_dg _, ?_, rfl, ?_⟩
    · by_cases h : 1 ≤ S / 100
      · exact Or.inl (dec_head _ h)
      · right
        rw [show S / 100 = 0 by omega, Lib.decDigits_one (by omega)]
        rfl
    · intro c hc
      rcases List.mem_cons.mp hc with rfl | hc
      · exact dg_digit _ (by omega)
      · rw [List.mem_singleton.mp hc]
        exact dg_digit _ (by omega)
  · rw [numTo_two, num_dec, digit_byte _ (by omega), digit_byte _ (by omega), show (((S / 100 : Nat) : Int) * 10 + (48 + ((S / 10 % 10 : Nat) : Int) - 48)) * 10 + (48 + ((S % 10 : Nat) : Int) - 48) = S by omega]
    unfold finV signV
    by_cases h : v < 0
    · rw [decide_eq_true h, if_neg (by unfold size at hS; omega), if_pos rfl, if_pos (by omega)]
      congr 1; unfold size at hS; omega
    · rw [decide_eq_false h, if_neg (by simp), if_neg (by simp), if_pos (by unfold size at hS; omega)]
      congr 1; unfold size at hS; omega

theorem two_of {pt : List UInt8} (h : pt.length = 2) : ∃ p q, pt = [p, q] := by
  match pt, h with
  | [p, q], _ => exact ⟨p, q, rfl⟩

/-- What is read is written as it was. -/
theorem text_reads (s : List UInt8) (v : Int) (h : ReadsTo s v 0) : textOf v = s := by
  rcases h with ⟨neg, wh, pt, rfl, hf, hv⟩ | ⟨_, _, h7⟩
  · obtain ⟨p, q, rfl⟩ := two_of hf.p2
    have hp := hf.pd p (by simp)
    have hq := hf.pd q (by simp)
    have hne : wh ≠ [] := fun e => by have := hf.w1; rw [e] at this; simp at this
    obtain ⟨W0, hW⟩ := dec_num wh.length wh rfl hne hf.wd hf.w0
    rw [numTo_two] at hv
    generalize numTo wh wh.length = W at *
    have bp := byte_digit p hp
    have bq := byte_digit q hq
    obtain ⟨p1, p2⟩ := hp
    obtain ⟨q1, q2⟩ := hq
    obtain ⟨x, hx⟩ : ∃ x, (W * 10 + ((p.toNat : Int) - 48)) * 10 + ((q.toNat : Int) - 48) = x := ⟨_, rfl⟩
    rw [hx] at hv
    have key : size v = x ∧ (decide (v < 0)) = neg := by
      unfold finV signV at hv
      cases neg
      · rw [if_neg (by simp), if_neg (by simp)] at hv
        by_cases h : x ≤ 9223372036854775807
        · rw [if_pos h] at hv
          have : v = x := by simpa using congrArg Prod.fst hv
          unfold size
          refine ⟨by omega, ?_⟩
          simp; omega
        · rw [if_neg h] at hv
          have := congrArg Prod.snd hv
          simp at this
      · by_cases z : x = 0
        · rw [if_pos ⟨rfl, z⟩] at hv
          have := congrArg Prod.snd hv
          simp at this
        · rw [if_neg (fun h => z h.2), if_pos rfl] at hv
          by_cases h : x ≤ 9223372036854775808
          · rw [if_pos h] at hv
            have : v = -x := by simpa using congrArg Prod.fst hv
            unfold size
            refine ⟨by omega, ?_⟩
            simp; omega
          · rw [if_neg h] at hv
            have := congrArg Prod.snd hv
            simp at this
    unfold textOf
    rw [mark_if, key.1, key.2, show x.toNat / 100 = W.toNat by omega, hW, show x.toNat / 10 % 10 = ((p.toNat : Int) - 48).toNat by omega, show x.toNat % 10 = ((q.toNat : Int) - 48).toNat by omega, bp, bq]
  · exact absurd h7 (by decide)

end Go.Proofs.YtefkabkncmflpaaDoor
