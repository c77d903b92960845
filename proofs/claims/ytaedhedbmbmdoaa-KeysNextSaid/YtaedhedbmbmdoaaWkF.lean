/-
  Walks: the reader: a part.
-/
import Derived.Test.YtaedhedbmbmdoaaWkE
namespace Go.Proofs.Ytaedhedbmbmdoaa
open Go.RowKit

/-- A part that is read: it, what is behind it, the error. -/
def stepP : List Int → Pt × List Int × Int
  | [] => (⟨false, 0, []⟩, [], 10)
  | x :: s =>
    if x = 1 then
      if s.length < 8 then (⟨false, 0, []⟩, [], 10)
      else (⟨false, valF 0 (s.take 8) - 9223372036854775808, []⟩, s.drop 8, 0)
    else if x = 2 then (⟨true, 0, (unesc s).1⟩, (unesc s).2.1, (unesc s).2.2)
    else (⟨false, 0, []⟩, [], 11)
/-- A part as it is kept: of a text that is too long no more than shows it. -/
def trunc (p : Pt) : Qt := ⟨p.t, p.num, strOfNums (p.text.take 65)⟩

def Parted (w : World) (B g : Nat) (r : Pt × List Int × Int) (e : Ending) (w' : World) : Prop :=
  if r.2.2 = 0 then Went w B g (trunc r.1).val r.2.1 e w' else Broke w B r.2.2 e w'
theorem parted_broke {w w' : World} {B g : Nat} {r : Pt × List Int × Int} {n : Int} (hn : r.2.2 = n) (h0 : n ≠ 0) (hb : Below B w w') : Parted w B g r (broke n) w' := by
  unfold Parted
  rw [hn, if_neg h0]
  exact ⟨rfl, hb⟩

/-- The cells of a result of the call's own, behind calls that keep it. -/
theorem kept_three {w w1 : World} {g : Nat} {u v x : Value} {t : TypeId} (hb : BelowX (w.alloc (.cells #[u, v, x] t)).heap.size g (w.alloc (.cells #[u, v, x] t)) w1) (hg : g < w.heap.size) :
    (w1.cell? ⟨w.heap.size, 0, none⟩ = some u ∧ w1.cell? ⟨w.heap.size, 1, none⟩ = some v ∧ w1.cell? ⟨w.heap.size, 2, none⟩ = some x) ∧ ∀ i, w1.frozen? ⟨w.heap.size, i, none⟩ = false := by
  have h : w1.heap[w.heap.size]? = some (.cells #[u, v, x] t (0, 0)) := by
    rw [hb.block _ (by simp) (by omega)]
    exact heap_alloc_new w _
  refine ⟨⟨?_, ?_, ?_⟩, fun i => ?_⟩
  · simp [World.cell?, h]
  · simp [World.cell?, h]
  · simp [World.cell?, h]
  · simp [World.frozen?, h]

theorem belowx_al {w w1 : World} {B g : Nat} {o : Obj} (h : BelowX (w.alloc o).heap.size g (w.alloc o) w1) (hg : g < w.heap.size) (hB : B ≤ g) : Below B w w1 := by
  have h1 : Below B w (w.alloc o) := (Below.refl B w).alloc (by omega) o
  exact h1.trans (h.below (by simp; omega) hB)
theorem belowx_alx {w w1 : World} {g : Nat} {o : Obj} (h : BelowX (w.alloc o).heap.size g (w.alloc o) w1) : BelowX w.heap.size g w w1 :=
  (below_x (below_new w o)).trans (h.mono (by simp))
/-- The last step: the result is laid. -/
theorem belowx_lay {w w1 w2 : World} {g : Nat} (h : BelowX w.heap.size g w w1) (hb : Below w.heap.size w1 w2) : BelowX w.heap.size g w w2 := h.trans (below_x hb)
theorem rd_lay {w w1 w2 : World} {B g : Nat} {L : List Int} (h : ∃ A c, Rd w1 B g A c L) (hb : Below w.heap.size w1 w2) (hg : g < w.heap.size) : ∃ A c, Rd w2 B g A c L := by
  obtain ⟨A, c, h⟩ := h
  exact ⟨A, c, h.kept hb hg⟩
theorem below_three (w w1 : World) (u v x : Value) : Below w.heap.size w1 (((w1.setCell ⟨w.heap.size, 0, none⟩ u).setCell ⟨w.heap.size, 1, none⟩ v).setCell ⟨w.heap.size, 2, none⟩ x) :=
  (((Below.refl _ _).setCell (p := ⟨w.heap.size, 0, none⟩) (Nat.le_refl _) u).setCell (p := ⟨w.heap.size, 1, none⟩) (Nat.le_refl _) v).setCell (p := ⟨w.heap.size, 2, none⟩) (Nat.le_refl _) x

set_option maxHeartbeats 4000000 in
theorem part_any (w : World) (B g : Nat) (A : Option Addr) (c : Nat) (x : Int) (S : List Int) (h : Rd w B g A c (x :: S)) :
    Calls Try.prog 36 #[.pointer (some ⟨g, 0, none⟩)] w (Parted w B g (stepP (x :: S))) := by
  have HR := Lib.hid (h.alloc (.cells #[.bool false, .int .i64 0, .string ⟨#[]⟩] 41))
  have HG := Lib.hid h.lt
  have HL := Lib.hid h.low
  have HN := Lib.hid (next_cons _ B g A c x S HR.out)
  clear h
  by_cases h1 : x = 1
  · subst h1
    by_cases h8 : S.length < 8
    · have HQ : Hid ((stepP (1 :: S)).2.2 = 10) := Lib.hid (by simp [stepP, h8])
      generalize stepP (1 :: S) = r at HQ
      go_enter Try.func36, Try.ntmps36
      go_wp2_with (first
        | (go_at_call 39; refine HN.out.mono ?_; rintro e w1 ⟨rfl, r1, b1⟩; have R1 := Lib.hid r1; have B1 := Lib.hid b1; clear r1 b1)
        | (go_at_call 40; obtain ⟨A1, c1, r1⟩ := R1.out; refine (number_short _ B g A1 c1 S r1 h8).mono ?_; rintro e w2 ⟨he, hb⟩; unfold broke at he; subst he; have B2 := Lib.hid hb; clear hb))
      exact ⟨rfl, parted_broke HQ.out (by omega) ((belowx_al B1.out HG.out HL.out).trans B2.out)⟩
    · have h8' : 8 ≤ S.length := by omega
      have HQ : Hid (stepP (1 :: S) = (⟨false, valF 0 (S.take 8) - 9223372036854775808, []⟩, S.drop 8, 0)) := Lib.hid (by simp [stepP, h8])
      generalize stepP (1 :: S) = r at HQ
      clear h8
      have HM := Lib.hid (fun w A c (h : Rd w B g A c S) => number_long w B g A c S h h8')
      generalize valF 0 (S.take 8) - 9223372036854775808 = v at HQ HM
      go_enter Try.func36, Try.ntmps36
      go_wp2_with (first
        | (go_at_call 39; refine HN.out.mono ?_; rintro e w1 ⟨rfl, r1, b1⟩; have R1 := Lib.hid r1; have B1 := Lib.hid b1; clear r1 b1)
        | (go_at_call 40; obtain ⟨A1, c1, r1⟩ := R1.out; refine (HM.out _ A1 c1 r1).mono ?_; rintro e w2 ⟨rfl, r2, b2⟩; have R2 := Lib.hid r2; have B2 := Lib.hid (B1.out.trans (b2.mono B1.out.size)); obtain ⟨⟨k0, k1, k2⟩, kf⟩ := kept_three B2.out HG.out; have f0 := kf 0; have f1 := kf 1; have f2 := kf 2; clear r2 b2 kf))
      refine bodyPost_ret (v := .agg #[.bool false, .int .i64 v, .string ⟨#[]⟩]) (by simp [results, Try.results36, go_sem, k0, k1, k2]) rfl ?_
      rw [HQ.out]
      have hb := below_three w w2 (.bool false) (.int .i64 v) (.string ⟨#[]⟩)
      exact ⟨rfl, rd_lay R2.out hb HG.out, belowx_lay (belowx_alx B2.out) hb⟩
  · by_cases h2 : x = 2
    · subst h2
      have HQ : Hid (stepP (2 :: S) = (⟨true, 0, (unesc S).1⟩, (unesc S).2.1, (unesc S).2.2)) := Lib.hid (by simp [stepP])
      generalize stepP (2 :: S) = r at HQ
      have HM := Lib.hid (fun w A c (h : Rd w B g A c S) => text_any w B g A c S h)
      generalize unesc S = u at HQ HM
      obtain ⟨T, R, n⟩ := u
      simp only at HQ
      unfold Texted at HM
      simp only at HM
      by_cases h0 : n = 0
      · subst h0
        simp only [if_true] at HM
        obtain ⟨s, hs⟩ : ∃ s, strOfNums (T.take 65) = s := ⟨_, rfl⟩
        rw [hs] at HM
        have HS := Lib.hid hs
        clear hs
        go_enter Try.func36, Try.ntmps36
        go_wp2_with (first
          | (go_at_call 39; refine HN.out.mono ?_; rintro e w1 ⟨rfl, r1, b1⟩; have R1 := Lib.hid r1; have B1 := Lib.hid b1; clear r1 b1)
          | (go_at_call 41; obtain ⟨A1, c1, r1⟩ := R1.out; refine (HM.out _ A1 c1 r1).mono ?_; rintro e w2 ⟨rfl, r2, b2⟩; have R2 := Lib.hid r2; have B2 := Lib.hid (B1.out.trans (b2.mono B1.out.size)); obtain ⟨⟨k0, k1, k2⟩, kf⟩ := kept_three B2.out HG.out; have f0 := kf 0; have f1 := kf 1; have f2 := kf 2; clear r2 b2 kf))
        refine bodyPost_ret (v := .agg #[.bool true, .int .i64 0, .string s]) (by simp [results, Try.results36, go_sem, k0, k1, k2]) rfl ?_
        rw [HQ.out, ← HS.out]
        have hb := below_three w w2 (.bool true) (.int .i64 0) (.string s)
        rw [← HS.out] at hb
        exact ⟨rfl, rd_lay R2.out hb HG.out, belowx_lay (belowx_alx B2.out) hb⟩
      · simp only [if_neg h0] at HM
        have HZ := Lib.hid h0
        clear h0
        go_enter Try.func36, Try.ntmps36
        go_wp2_with (first
          | (go_at_call 39; refine HN.out.mono ?_; rintro e w1 ⟨rfl, r1, b1⟩; have R1 := Lib.hid r1; have B1 := Lib.hid b1; clear r1 b1)
          | (go_at_call 41; obtain ⟨A1, c1, r1⟩ := R1.out; refine (HM.out _ A1 c1 r1).mono ?_; rintro e w2 ⟨he, hb⟩; unfold broke at he; subst he; have B2 := Lib.hid hb; clear hb))
        exact ⟨rfl, parted_broke (by rw [HQ.out]) HZ.out ((belowx_al B1.out HG.out HL.out).trans B2.out)⟩
    · have HQ : Hid ((stepP (x :: S)).2.2 = 11) := Lib.hid (by simp [stepP, h1, h2])
      generalize stepP (x :: S) = r at HQ
      have h1' : (x == 1) = false := by simpa using h1
      have h2' : (x == 2) = false := by simpa using h2
      clear h1 h2
      go_enter Try.func36, Try.ntmps36
      go_wp2_with (go_at_call 39; refine HN.out.mono ?_; rintro e w1 ⟨rfl, r1, b1⟩; have R1 := Lib.hid r1; have B1 := Lib.hid b1; clear r1 b1)
      exact ⟨rfl, parted_broke HQ.out (by omega) (belowx_al B1.out HG.out HL.out)⟩

end Go.Proofs.Ytaedhedbmbmdoaa
