/-
  What is read of a text, said once: and that amount.Read reads it.
-/
import Derived.Test.YtefkabkncmflpaaDoorRead
namespace Go.Proofs.YtefkabkncmflpaaDoor
open Go.RowKit

def dg (c : UInt8) : Prop := 48 ≤ (c.toNat : Int) ∧ (c.toNat : Int) ≤ 57
def mark (neg : Bool) : List UInt8 := if neg then [45] else []

/-- An amount's whole and part, as its text has them. -/
structure Form (wh pt : List UInt8) : Prop where
  w1 : 1 ≤ wh.length
  w17 : wh.length ≤ 17
  wd : ∀ c ∈ wh, dg c
  w0 : wh.head? ≠ some 48 ∨ wh.length = 1
  p2 : pt.length = 2
  pd : ∀ c ∈ pt, dg c

/-- What is read of a text: the amount, or why not. -/
def ReadsTo (s : List UInt8) (v er : Int) : Prop :=
  (∃ neg wh pt, s = mark neg ++ (wh ++ 46 :: pt) ∧ Form wh pt ∧ (v, er) = finV (numTo (wh ++ pt) (wh ++ pt).length) neg) ∨
  ((¬ ∃ neg wh pt, s = mark neg ++ (wh ++ 46 :: pt) ∧ Form wh pt) ∧ v = 0 ∧ er = 7)

theorem split_one : ∀ {a b c d : List UInt8}, a ++ 46 :: b = c ++ 46 :: d → 46 ∉ a → 46 ∉ c → a = c ∧ b = d
  | [], b, [], d, h, _, _ => by simpa using h
  | [], b, x :: c, d, h, _, h2 => by
    simp at h
    exact absurd (by rw [h.1]; simp) h2
  | x :: a, b, [], d, h, h1, _ => by
    simp at h
    exact absurd (by rw [h.1]; simp) h1
  | x :: a, b, y :: c, d, h, h1, h2 => by
    simp only [List.cons_append, List.cons.injEq] at h
    have := split_one h.2 (fun h' => h1 (List.mem_cons_of_mem _ h')) (fun h' => h2 (List.mem_cons_of_mem _ h'))
    exact ⟨by rw [h.1, this.1], this.2⟩

theorem not_dg {c : UInt8} (h : dg c) : c ≠ 46 ∧ c ≠ 45 := by
  constructor
  · rintro rfl; exact absurd h.1 (by decide)
  · rintro rfl; exact absurd h.1 (by decide)

theorem Form.no46 {wh pt : List UInt8} (h : Form wh pt) : 46 ∉ wh := fun h' => (not_dg (h.wd 46 h')).1 rfl

theorem sgn_one {neg neg' : Bool} {dl wh pt : List UInt8} (h : mark neg ++ dl = mark neg' ++ (wh ++ 46 :: pt)) (hn : neg = false → dl.head? ≠ some 45) (hf : Form wh pt) : neg = neg' ∧ dl = wh ++ 46 :: pt := by
  match wh, hf with
  | [], hf => exact absurd hf.w1 (by simp)
  | c :: wh, hf =>
    have hc := (not_dg (hf.wd c (by simp))).2
    cases neg <;> cases neg' <;> simp [mark] at h hn ⊢
    · exact h
    · rw [h] at hn; simp at hn
    · exact absurd h.1.symm hc
    · exact h

/-- A text is read in one way. -/
theorem ReadsTo.one {s : List UInt8} {v er v' er' : Int} (h : ReadsTo s v er) (h' : ReadsTo s v' er') : v = v' ∧ er = er' := by
  rcases h with ⟨neg, wh, pt, e, hf, hv⟩ | ⟨hn, rfl, rfl⟩
  · rcases h' with ⟨neg', wh', pt', e', hf', hv'⟩ | ⟨hn', _⟩
    · have hh : neg = false → (wh ++ 46 :: pt).head? ≠ some 45 := fun _ => by
        match wh, hf with
        | [], hf => exact absurd hf.w1 (by simp)
        | c :: wh, hf => simpa using (not_dg (hf.wd c (by simp))).2
      obtain ⟨rfl, e2⟩ := sgn_one (e.symm.trans e') hh hf'
      obtain ⟨rfl, rfl⟩ := split_one e2 hf.no46 hf'.no46
      have := hv.trans hv'.symm
      simpa using this
    · exact absurd ⟨neg, wh, pt, e, hf⟩ hn'
  · rcases h' with ⟨neg', wh', pt', e', hf', hv'⟩ | ⟨_, rfl, rfl⟩
    · exact absurd ⟨neg', wh', pt', e', hf'⟩ hn
    · exact ⟨rfl, rfl⟩

theorem digs_iff (l : List UInt8) : Digs ⟨l.toArray⟩ ↔ ∀ c ∈ l, dg c := by
  constructor
  · intro h c hc
    obtain ⟨i, hi, rfl⟩ := List.getElem_of_mem hc
    exact h i hi
  · intro h i hi
    exact h _ (List.getElem_mem hi)

theorem whole_iff (l : List UInt8) : Whole ⟨l.toArray⟩ ↔ (1 ≤ l.length ∧ l.length ≤ 17 ∧ (∀ c ∈ l, dg c) ∧ (l.head? ≠ some 48 ∨ l.length = 1)) := by
  unfold Whole
  rw [digs_iff]
  refine and_congr Iff.rfl (and_congr Iff.rfl (and_congr Iff.rfl (or_congr ?_ Iff.rfl)))
  match l with
  | [] => exact ⟨fun _ => by simp, fun _ hi => absurd hi (by decide)⟩
  | c :: l =>
    have e0 : (ByteArray.mk (c :: l).toArray)[0]'(by show 0 < (c :: l).length; simp) = c := rfl
    constructor
    · intro h hc
      have := h (by show 0 < (c :: l).length; simp)
      rw [e0] at this
      simp at hc
      subst hc
      exact this rfl
    · intro h hi hc
      apply h
      rw [e0] at hc
      have : c = 48 := by
        apply UInt8.toNat_inj.mp
        have : (48 : UInt8).toNat = 48 := rfl
        omega
      simp [this]

theorem cut_split : ∀ l : List UInt8, (Lib.indexByte l 46 = -1 ∧ 46 ∉ l) ∨ ∃ a b, l = a ++ 46 :: b ∧ 46 ∉ a ∧ Lib.indexByte l 46 = a.length
  | [] => Or.inl ⟨rfl, by simp⟩
  | c :: l => by
    by_cases hc : c = 46
    · subst hc
      exact Or.inr ⟨[], l, rfl, by simp, by simp [Lib.indexByte]⟩
    · have hb : (c == 46) = false := by simpa using hc
      rcases cut_split l with ⟨h1, h2⟩ | ⟨a, b, rfl, h2, h3⟩
      · refine Or.inl ⟨by simp [Lib.indexByte, hb, h1], ?_⟩
        simp [h2]
        exact fun h => hc h.symm
      · refine Or.inr ⟨c :: a, b, rfl, ?_, ?_⟩
        · simp [h2]
          exact fun h => hc h.symm
        · have h4 : ¬ ((a.length : Int) = -1) := by omega
          simp [Lib.indexByte, hb, h3, h4]

theorem prefix_split (s : ByteArray) : ∃ neg dl, s.data.toList = mark neg ++ dl ∧ (neg = false → dl.head? ≠ some 45) ∧ CutsTo s ⟨dl.toArray⟩ neg := by
  have C := fun w => Tryd.strings_CutPrefix s ⟨#[45]⟩ w
  simp only at C
  by_cases h : s.data.toList.head? = some 45
  · obtain ⟨t, ht⟩ : ∃ t, s.data.toList = 45 :: t := by
      match hl : s.data.toList with
      | [] => rw [hl] at h; simp at h
      | c :: t => rw [hl] at h; simp at h; exact ⟨t, by rw [h]⟩
    refine ⟨true, t, by rw [ht]; rfl, by simp, fun w => (C w).mono ?_⟩
    rintro e w' ⟨rfl, rfl⟩
    rw [ht]
    have e1 : Lib.hasPrefix (45 :: t) [45] = true := by simp [Lib.hasPrefix, List.isPrefixOf]
    have e2 : Lib.trimPrefix (45 :: t) [45] = t := by rw [Lib.trimPrefix, if_pos e1]; rfl
    rw [e1, e2]
    exact ⟨rfl, rfl⟩
  · refine ⟨false, s.data.toList, rfl, fun _ => h, fun w => (C w).mono ?_⟩
    rintro e w' ⟨rfl, rfl⟩
    have e1 : Lib.hasPrefix s.data.toList [45] = false := by
      match hl : s.data.toList with
      | [] => rfl
      | c :: t =>
        rw [hl] at h
        have : c ≠ 45 := by simpa using h
        simp [Lib.hasPrefix, List.isPrefixOf]
        exact fun h => this h.symm
    have e2 : Lib.trimPrefix s.data.toList [45] = s.data.toList := by rw [Lib.trimPrefix, e1]; rfl
    rw [e1, e2]
    exact ⟨rfl, rfl⟩

theorem amount_read (s : ByteArray) (w : World) (hs : s.size ≤ 9223372036854775807) :
    Calls Tryd.prog 25 #[.string s] w fun e w' => ∃ v er, e = .returned (.tuple #[.int .i64 v, .int .i64 er]) ∧ ReadsTo s.data.toList v er ∧ Below w.heap.size w w' := by
  obtain ⟨neg, dl, hl, hn, CP⟩ := prefix_split s
  have hsz : s.size = s.data.toList.length := Lib.size_eq s
  have hdl : dl.length ≤ s.size := by rw [hsz, hl]; simp
  have hd : (ByteArray.mk dl.toArray).size = dl.length := rfl
  rcases cut_split dl with ⟨hx, hno⟩ | ⟨a, b, hab, hna, hx⟩
  · refine (read_none s ⟨dl.toArray⟩ neg w CP (by rw [hd]; omega) hx).mono ?_
    rintro e w' ⟨rfl, hb⟩
    refine ⟨0, 7, rfl, Or.inr ⟨?_, rfl, rfl⟩, hb⟩
    rintro ⟨neg', wh, pt, h, hf⟩
    have h2 := (sgn_one (hl.symm.trans h) hn hf).2
    exact hno (by rw [h2]; simp)
  · have hal : a.length < dl.length := by rw [hab]; simp
    have hbl : b.length < dl.length := by rw [hab]; simp; omega
    have CD : ∀ w, Calls Tryd.prog 43 #[.string ⟨dl.toArray⟩, .string ⟨#[46]⟩] w fun e w' => e = .returned (.tuple #[.string ⟨a.toArray⟩, .string ⟨b.toArray⟩, .bool true]) ∧ ∃ n, w' = w.drewN n := fun w => by
      refine (cutDot_yes ⟨dl.toArray⟩ a.length w (by rw [hd]; omega) (by rw [hd]; omega) hx).mono ?_
      rintro e w' ⟨rfl, h⟩
      refine ⟨?_, h⟩
      have e1 : (ByteArray.mk dl.toArray).extract 0 a.length = ByteArray.mk a.toArray := by
        apply ByteArray.ext; rw [hab]; simp [ByteArray.data_extract]
      have e2 : (ByteArray.mk dl.toArray).extract (a.length + 1) (ByteArray.mk dl.toArray).size = ByteArray.mk b.toArray := by
        apply ByteArray.ext; rw [hab]; simp [ByteArray.data_extract]
        refine List.take_of_length_le ?_
        show b.length ≤ (a ++ 46 :: b).length - (a.length + 1)
        simp; omega
      rw [e1, e2]
    have ha : (ByteArray.mk a.toArray).size = a.length := rfl
    have hb : (ByteArray.mk b.toArray).size = b.length := rfl
    by_cases hf : Form a b
    · have hap : ByteArray.mk a.toArray ++ ByteArray.mk b.toArray = ByteArray.mk (a ++ b).toArray := by
        apply ByteArray.ext; simp [ByteArray.data_append]
      have hall : ∀ c ∈ a ++ b, dg c := fun c hc => by
        rcases List.mem_append.mp hc with h | h
        · exact hf.wd c h
        · exact hf.pd c h
      have h19 : (a ++ b).length ≤ 19 := by rw [List.length_append]; have := hf.w17; have := hf.p2; omega
      have hbd := numTo_bd (a ++ b) (a ++ b).length (fun i hi => by
        have := hall ((a ++ b)[i]) (List.getElem_mem hi)
        have e : (a ++ b).getD i 0 = (a ++ b)[i] := by simp [List.getD, List.getElem?_eq_getElem hi]
        rw [e]; exact this) (a ++ b).length (Nat.le_refl _)
      have hpw : (10 : Int) ^ (a ++ b).length ≤ 10 ^ 19 := by
        have := Nat.pow_le_pow_right (n := 10) (by omega) h19
        exact_mod_cast this
      refine (read_good s ⟨dl.toArray⟩ ⟨a.toArray⟩ ⟨b.toArray⟩ neg w CP CD ((whole_iff a).mpr ⟨hf.w1, hf.w17, hf.wd, hf.w0⟩) hf.p2 ((digs_iff b).mpr hf.pd) (by rw [hap]; exact (digs_iff _).mpr hall) (by rw [hap]; exact h19) _ rfl (by rw [hap]; exact hbd.1) (by rw [hap]; exact Int.lt_of_lt_of_le hbd.2 (Int.le_trans hpw (by decide)))).mono ?_
      rintro e w' ⟨rfl, hbw⟩
      rw [hap]
      exact ⟨_, _, rfl, Or.inl ⟨neg, a, b, by rw [hl, hab], hf, rfl⟩, hbw⟩
    · refine (read_bad s ⟨dl.toArray⟩ ⟨a.toArray⟩ ⟨b.toArray⟩ neg w CP CD (by rw [ha]; omega) (by rw [hb]; omega) ?_).mono ?_
      · rintro ⟨h1, h2, h3⟩
        have hw := (whole_iff a).mp h1
        exact hf ⟨hw.1, hw.2.1, hw.2.2.1, hw.2.2.2, h2, (digs_iff b).mp h3⟩
      · rintro e w' ⟨rfl, hbw⟩
        refine ⟨0, 7, rfl, Or.inr ⟨?_, rfl, rfl⟩, hbw⟩
        rintro ⟨neg', wh, pt, h, hf'⟩
        have h2 := (sgn_one (hl.symm.trans h) hn hf').2
        obtain ⟨rfl, rfl⟩ := split_one (hab.symm.trans h2) hna hf'.no46
        exact hf hf'

end Go.Proofs.YtefkabkncmflpaaDoor
