/-
  The walk of the law AmountTexts.
-/
import Derived.Test.YtefkabkncmflpaaDoorLawT
import Derived.WalkSmall
namespace Go.Proofs.YtefkabkncmflpaaDoor
open Go.RowKit

/-- The table of powers stands. -/
def Tab (w : World) : Prop := Lib.TabIs Tryd.prog w "internal/strconv.uint64pow10" .u64 Lib.pow10Tab
theorem Tab.kept {w w' : World} (h : Tab w) (hb : Below w.heap.size w w') : Tab w' := by
  have hg : Tryd.prog.globalNamed "internal/strconv.uint64pow10" = some 3 := by kernel_rfl
  have h' : w.var? Tryd.prog "internal/strconv.uint64pow10" = some (Lib.pow10Tab.map fun z => Value.int .u64 z).toArray := h
  refine (var?_below hb hg ?_ h' : _)
  apply Classical.byContradiction
  intro hn
  have hnone : w.heap[3]? = none := Array.getElem?_eq_none (by omega)
  unfold World.var? at h'
  simp only [hg, Option.bind_some] at h'
  rw [hnone] at h'
  simp at h'

theorem reads_some (s : List UInt8) : ∃ v er, ReadsTo s v er := by
  by_cases h : ∃ neg wh pt, s = mark neg ++ (wh ++ 46 :: pt) ∧ Form wh pt
  · obtain ⟨neg, wh, pt, e, hf⟩ := h
    exact ⟨_, _, Or.inl ⟨neg, wh, pt, e, hf, rfl⟩⟩
  · exact ⟨0, 7, Or.inr ⟨h, rfl, rfl⟩⟩
theorem reads_bd {s : List UInt8} {v er : Int} (h : ReadsTo s v er) : -9223372036854775808 ≤ v ∧ v ≤ 9223372036854775807 := by
  rcases h with ⟨neg, wh, pt, _, hf, hv⟩ | ⟨_, rfl, _⟩
  · have hall : ∀ c ∈ wh ++ pt, dg c := fun c hc => by
      rcases List.mem_append.mp hc with h | h
      · exact hf.wd c h
      · exact hf.pd c h
    have h0 := (numTo_digs (wh ++ pt) _ (Nat.le_refl _) hall).1
    generalize numTo (wh ++ pt) (wh ++ pt).length = x at *
    have e := congrArg Prod.fst hv
    simp only at e
    rw [e]
    unfold finV signV
    split
    · simp
    · split
      · split <;> simp <;> omega
      · split <;> simp <;> omega
  · omega

theorem read_is (s : ByteArray) (v er : Int) (w : World) (hs : s.size ≤ 9223372036854775807) (h : ReadsTo s.data.toList v er) :
    Calls Tryd.prog 25 #[.string s] w fun e w' => e = .returned (.tuple #[.int .i64 v, .int .i64 er]) ∧ Below w.heap.size w w' := by
  refine (amount_read s w hs).mono ?_
  rintro e w' ⟨v', er', rfl, h', hb⟩
  obtain ⟨rfl, rfl⟩ := h.one h'
  exact ⟨rfl, hb⟩
theorem readR_is (s : ByteArray) (v er : Int) (w : World) (hs : s.size ≤ 9223372036854775807) (h : ReadsTo s.data.toList v er) :
    Calls Tryd.prog 26 #[.string s] w fun e w' => e = .returned (.tuple #[.int .i64 v, .int .i64 er]) ∧ Below w.heap.size w w' := by
  refine (refRead_any s w hs).mono ?_
  rintro e w' ⟨v', er', rfl, h', hb⟩
  obtain ⟨rfl, rfl⟩ := h.one h'
  exact ⟨rfl, hb⟩

theorem text_len (v : Int) (h0 : -9223372036854775808 ≤ v) (h1 : v ≤ 9223372036854775807) : (textOf v).length ≤ 30 := by
  have hs : (size v).toNat / 100 < 18446744073709551616 := by unfold size; omega
  have := Lib.nDigits_le20 _ hs
  unfold textOf
  split <;> simp [Lib.decDigits_length] <;> omega

set_option maxRecDepth 100000 in
set_option maxHeartbeats 2000000 in
theorem texts_law (v : Int) (s : ByteArray) (w : World) (hs : s.size ≤ 9223372036854775807) (h0 : -9223372036854775808 ≤ v) (h1 : v ≤ 9223372036854775807) (hT : Tab w) :
    Calls Tryd.prog 8 #[.int .i64 v, .string s] w fun e w' => e = .returned (.bool true) ∧ Below w.heap.size w w' := by
  obtain ⟨x, er, hr⟩ := reads_some s.data.toList
  have xb := reads_bd hr
  have R1 := Lib.hid (fun w => read_is s x er w hs hr)
  have R2 := Lib.hid (fun w => readR_is s x er w hs hr)
  have R3 := Lib.hid (fun w => read_is ⟨(textOf v).toArray⟩ v 0 w (by have := text_len v h0 h1; show (textOf v).length ≤ _; omega) (reads_text v h0 h1))
  have T1 := Lib.hid (fun w (h : Tab w) => text_any v w h0 h1 h)
  have T2 := Lib.hid (fun w => refText_any v w h0 h1)
  have TX := Lib.hid (fun w (h : Tab w) => text_any x w xb.1 xb.2 h)
  have HE : Hid (er = 0 → ByteArray.mk (textOf x).toArray = s) := Lib.hid (fun e => by
    subst e
    apply ByteArray.ext
    apply Array.toList_inj.mp
    rw [text_reads _ _ hr])
  clear hr hs
  generalize ByteArray.mk (textOf v).toArray = t at R3 T1 T2
  by_cases he : er = 0
  · subst he
    have e1 := HE.out rfl
    rw [e1] at TX
    clear HE e1
    go_enter Tryd.func8, Tryd.ntmps8
    go_wp2_with (first | (go_at_call 11; refine (wakes_any _).mono ?_; rintro e w1 ⟨rfl, hb1⟩; have t1 := hT.kept hb1) | (go_at_call 25; (with_reducible refine (R1.out _).mono ?_); rintro e w2 ⟨rfl, hb2⟩; have t2 := t1.kept hb2) | (go_at_call 26; refine (R2.out _).mono ?_; rintro e w3 ⟨rfl, hb3⟩; have t3 := t2.kept hb3) | (go_at_call 27; (with_reducible refine (T1.out _ (by assumption)).mono ?_); rintro e w4 ⟨rfl, hb4⟩; have t4 := Tab.kept (by assumption) hb4) | (go_at_call 25; (with_reducible refine (R3.out _).mono ?_); rintro e w5 ⟨rfl, hb5⟩; have t5 := Tab.kept (by assumption) hb5) | (go_at_call 28; refine (T2.out _).mono ?_; rintro e w6 ⟨rfl, hb6⟩; have t6 := Tab.kept (by assumption) hb6) | (go_at_call 27; (with_reducible refine (TX.out _ (by assumption)).mono ?_); rintro e w7 ⟨rfl, hb7⟩))
    go_ret
    refine ⟨by simp, ?_⟩
    repeat (first | exact Below.refl _ _ | refine below_then ?_ (by assumption))
  · have he' : (er != 0) = true := by simpa using he
    clear HE TX he
    go_enter Tryd.func8, Tryd.ntmps8
    go_wp2_with (first | (go_at_call 11; refine (wakes_any _).mono ?_; rintro e w1 ⟨rfl, hb1⟩; have t1 := hT.kept hb1) | (go_at_call 25; (with_reducible refine (R1.out _).mono ?_); rintro e w2 ⟨rfl, hb2⟩; have t2 := t1.kept hb2) | (go_at_call 26; refine (R2.out _).mono ?_; rintro e w3 ⟨rfl, hb3⟩; have t3 := t2.kept hb3) | (go_at_call 27; (with_reducible refine (T1.out _ (by assumption)).mono ?_); rintro e w4 ⟨rfl, hb4⟩; have t4 := Tab.kept (by assumption) hb4) | (go_at_call 25; (with_reducible refine (R3.out _).mono ?_); rintro e w5 ⟨rfl, hb5⟩; have t5 := Tab.kept (by assumption) hb5) | (go_at_call 28; refine (T2.out _).mono ?_; rintro e w6 ⟨rfl, hb6⟩; have t6 := Tab.kept (by assumption) hb6))
    go_ret
    refine ⟨by simp, ?_⟩
    repeat (first | exact Below.refl _ _ | refine below_then ?_ (by assumption))

end Go.Proofs.YtefkabkncmflpaaDoor
