/-
  Walks: the reader: a row.
-/
import Derived.Test.YtaedhedbmbmdoaaWkF
namespace Go.Proofs.Ytaedhedbmbmdoaa
open Go.RowKit

theorem decF_fuel : ∀ (n m : Nat) (L : List Int), L.length ≤ n → L.length ≤ m → decF n L = decF m L
  | n, m, [], _, _ => by cases n <;> cases m <;> rfl
  | 0, _, _ :: _, h, _ => by simp at h
  | _, 0, _ :: _, _, h => by simp at h
  | n + 1, m + 1, x :: s, hn, hm => by
    have hn' : s.length ≤ n := by simpa using hn
    have hm' : s.length ≤ m := by simpa using hm
    have i8 := decF_fuel n m (s.drop 8) (by simp; omega) (by simp; omega)
    rw [decF, decF, i8]
    by_cases h1 : x = 1
    · rw [if_pos h1, if_pos h1]
    · rw [if_neg h1, if_neg h1]
      by_cases h2 : x = 2
      · rw [if_pos h2, if_pos h2]
        by_cases h3 : (unesc s).2.2 = 0
        · have hl := unesc_short s.length s (Nat.le_refl _)
          have iu := decF_fuel n m (unesc s).2.1 (by omega) (by omega)
          rw [if_pos h3, if_pos h3, iu]
        · rw [if_neg h3, if_neg h3]
      · rw [if_neg h2, if_neg h2]
/-- The parts that are read, and the first error. -/
def dec (L : List Int) : List Pt × Int := decF L.length L
theorem dec_nil : dec [] = ([], 0) := rfl
theorem dec_ok (x : Int) (s : List Int) (h : (stepP (x :: s)).2.2 = 0) : dec (x :: s) = ((stepP (x :: s)).1 :: (dec (stepP (x :: s)).2.1).1, (dec (stepP (x :: s)).2.1).2) ∧ (stepP (x :: s)).2.1.length < (x :: s).length := by
  unfold dec
  simp only [List.length_cons]
  rw [decF]
  unfold stepP at h ⊢
  by_cases h1 : x = 1
  · simp only [if_pos h1] at h ⊢
    by_cases h8 : s.length < 8
    · simp only [if_pos h8] at h; simp at h
    · simp only [if_neg h8]
      refine ⟨?_, by simp; omega⟩
      rw [decF_fuel s.length (s.drop 8).length (s.drop 8) (by simp) (Nat.le_refl _)]
  · simp only [if_neg h1] at h ⊢
    by_cases h2 : x = 2
    · simp only [if_pos h2] at h ⊢
      have hl := unesc_short s.length s (Nat.le_refl _)
      rw [if_pos h]
      refine ⟨?_, by omega⟩
      rw [decF_fuel s.length (unesc s).2.1.length (unesc s).2.1 (by omega) (Nat.le_refl _)]
    · simp only [if_neg h2] at h; simp at h
theorem dec_bad (x : Int) (s : List Int) (h : (stepP (x :: s)).2.2 ≠ 0) : (dec (x :: s)).2 = (stepP (x :: s)).2.2 := by
  unfold dec
  simp only [List.length_cons]
  rw [decF]
  unfold stepP at h ⊢
  by_cases h1 : x = 1
  · simp only [if_pos h1] at h ⊢
    by_cases h8 : s.length < 8
    · simp only [if_pos h8]
    · simp only [if_neg h8] at h; simp at h
  · simp only [if_neg h1] at h ⊢
    by_cases h2 : x = 2
    · simp only [if_pos h2] at h ⊢
      rw [if_neg h]
    · simp only [if_neg h2]

def LeftR (L : List Int) (T : List Pt) (R : List Int) : Prop := (dec L).2 = (dec R).2 ∧ ((dec R).2 = 0 → (dec L).1 = T ++ (dec R).1)
theorem LeftR.refl (L : List Int) : LeftR L [] L := ⟨rfl, fun _ => rfl⟩
theorem LeftR.step {L : List Int} {T : List Pt} {x : Int} {s : List Int} (h : LeftR L T (x :: s)) (h0 : (stepP (x :: s)).2.2 = 0) : LeftR L (T ++ [(stepP (x :: s)).1]) (stepP (x :: s)).2.1 := by
  obtain ⟨e, -⟩ := dec_ok x s h0
  refine ⟨by rw [h.1, e], fun k => ?_⟩
  rw [h.2 (by rw [e]; exact k), e]
  simp
theorem LeftR.bad {L : List Int} {T : List Pt} {x : Int} {s : List Int} (h : LeftR L T (x :: s)) (h0 : (stepP (x :: s)).2.2 ≠ 0) : (dec L).2 = (stepP (x :: s)).2.2 := by
  rw [h.1, dec_bad x s h0]
theorem LeftR.end_ {L : List Int} {T : List Pt} (h : LeftR L T []) : dec L = (T, 0) := by
  refine Prod.ext ?_ (by rw [h.1]; rfl)
  rw [h.2 rfl, dec_nil]
  simp

theorem rd_on2 {w w' : World} {B g C : Nat} {L : List Int} {o p : Obj} (h : ∃ A c, Rd w B g A c L) (hb : Below C ((w.alloc o).alloc p) w') (hg : g < C) : ∃ A c, Rd w' B g A c L := by
  obtain ⟨A, c, h⟩ := h
  exact ⟨A, c, ((h.alloc o).alloc p).kept hb hg⟩
theorem rd_on2' {w : World} {B g : Nat} {L : List Int} {o : Obj} (h : ∃ A c, Rd w B g A c L) : ∃ A c, Rd (w.alloc o) B g A c L := by
  obtain ⟨A, c, h⟩ := h
  exact ⟨A, c, h.alloc o⟩

/-- What is kept of a row. -/
def kept9 (T : List Pt) : List Qt := (T.map trunc).take 9
theorem kept9_more (T : List Pt) (p : Pt) (h : (kept9 T).length ≤ 8) : kept9 T ++ [trunc p] = kept9 (T ++ [p]) := by
  unfold kept9 at h ⊢
  rw [List.length_take] at h
  rw [List.map_append, List.take_of_length_le (by omega), List.take_of_length_le (by simp at h ⊢; omega)]
  rfl
theorem kept9_full (T : List Pt) (p : Pt) (h : ¬ (kept9 T).length ≤ 8) : kept9 T = kept9 (T ++ [p]) := by
  unfold kept9 at h ⊢
  rw [List.length_take] at h
  rw [List.map_append, List.take_append_of_le_length (by omega)]
theorem kept9_len (T : List Pt) : (kept9 T).length ≤ 9 := by unfold kept9; simp; omega

def Rowed (w : World) (B g : Nat) (d : List Pt × Int) (e : Ending) (w' : World) : Prop :=
  if d.2 = 0 then ∃ A c, e = .returned (.slice A (kept9 d.1).length c) ∧ Prow w' w.heap.size A c (kept9 d.1) ∧ BelowX w.heap.size g w w' else Broke w B d.2 e w'
theorem rowed_broke {w w' : World} {B g : Nat} {d : List Pt × Int} {n : Int} (hn : d.2 = n) (h0 : n ≠ 0) (hb : Below B w w') : Rowed w B g d (broke n) w' := by
  unfold Rowed
  rw [hn, if_neg h0]
  exact ⟨rfl, hb⟩
def InRow (w : World) (B g : Nat) (L : List Int) (t3 : Value) (wr : World) : Prop :=
  ∃ (T : List Pt) (R : List Int) (m : Nat) (A2 : Option Addr) (c2 : Nat), t3 = .slice A2 m c2 ∧ (kept9 T).length = m ∧ Prow wr w.heap.size A2 c2 (kept9 T) ∧ (∃ A' c', Rd wr B g A' c' R) ∧ BelowX w.heap.size g w wr ∧ LeftR L T R
theorem lit_part (w : World) (q : Qt) : Pts (w.alloc (.cells #[.bool q.t, .int .i64 q.num, .string q.s] 41)) (some ⟨w.heap.size, 0, none⟩) [q] :=
  (prow_made w w.heap.size [q] #[.bool q.t, .int .i64 q.num, .string q.s] rfl (by simp) (Nat.le_refl _)).lies
theorem lit_part2 (w : World) (o : Obj) (q : Qt) : Pts ((w.alloc o).alloc (.cells #[.bool q.t, .int .i64 q.num, .string q.s] 41)) (some ⟨w.heap.size + 1, 0, none⟩) [q] := by
  have := lit_part (w.alloc o) q
  rwa [World.size_alloc] at this
theorem Prow.keptx {w w' : World} {B C g : Nat} {A : Option Addr} {c : Nat} {l : List Qt} (h : Prow w B A c l) (hb : BelowX C g w w') (hC : w.heap.size ≤ C) (hg : g < B) : Prow w' B A c l := own_keptx h hb hC hg

set_option maxRecDepth 100000 in
set_option maxHeartbeats 4000000 in
theorem row_any (w : World) (B g : Nat) (A : Option Addr) (c : Nat) (L : List Int) (h : Rd w B g A c L) :
    Calls Try.prog 28 #[.pointer (some ⟨g, 0, none⟩)] w (Rowed w B g (dec L)) := by
  have HR := Lib.hid h
  have HG := Lib.hid h.lt
  have HL := Lib.hid h.low
  clear h
  obtain ⟨d, hd⟩ : ∃ d, dec L = d := ⟨_, rfl⟩
  have HU := Lib.hid hd
  rw [hd]
  clear hd
  go_enter Try.func28, Try.ntmps28
  go_wp2_with fail
  go_loopw [3] (fun t3 wr => InRow w B g L t3 wr) (fun _ wr => restOf wr g)
  case atStart => exact ⟨[], L, 0, none, 0, rfl, rfl, Prow.nil _ _, ⟨A, c, HR.out⟩, BelowX.refl _ _ _, LeftR.refl L⟩
  case round =>
    obtain ⟨T, R, m, A2, c2, rfl, hl, hrow, ⟨A', c', hrd⟩, hbx, hleft⟩ := hrel
    have hm9 : m ≤ 9 := by rw [← hl]; exact kept9_len T
    have HM := Lib.hid hl
    have HW := Lib.hid hrow
    have HD := Lib.hid hrd
    have HX := Lib.hid hbx
    have HT := Lib.hid hleft
    clear hl hrow hrd hbx hleft
    have ha := HD.out.at_.1
    rcases R with _ | ⟨x, S⟩
    ·
      simp only [List.length_nil] at ha
      go_wp2_with fail
      go_ret
      rw [← HU.out, HT.out.end_]
      exact ⟨A2, c2, ret_slice HM.out.symm, HW.out, HX.out⟩
    ·
      simp only [List.length_cons] at ha
      obtain ⟨k, hk⟩ : ∃ k, S.length = k := ⟨_, rfl⟩
      have HK0 := Lib.hid hk
      rw [hk] at ha
      clear hk
      have HN := Lib.hid (part_any wr B g A' c' x S HD.out)
      have HO := Lib.hid (fun h => dec_ok x S h)
      have HLF := Lib.hid (fun h => HT.out.step h)
      have HLB := Lib.hid (fun h => HT.out.bad h)
      generalize stepP (x :: S) = r at HN HO HLF HLB
      obtain ⟨p, R', n⟩ := r
      simp only at HO HLF HLB
      unfold Parted at HN
      simp only at HN
      by_cases h0 : n = 0
      · subst h0
        simp only [if_true] at HN
        have HL2 := Lib.hid (HO.out rfl).2
        have HT2 := Lib.hid (HLF.out rfl)
        clear HO HLF HLB
        by_cases hm8 : m ≤ 8
        · have HK := Lib.hid (kept9_more T p (by rw [HM.out]; exact hm8))
          unfold Went Qt.val at HN
          generalize trunc p = q at HN HK
          go_wp2_with (first
            | (go_at_call 36; refine HN.out.mono ?_; rintro e w2 ⟨rfl, r2, b2⟩; have R2 := Lib.hid r2; have B2 := Lib.hid (HX.out.trans (b2.mono HX.out.size)); have W2 := Lib.hid (HW.out.keptx b2 (Nat.le_refl _) HG.out); clear r2 b2)
            | (at_builtin; refine wpList_append_prow _ rfl (.tmp 16) (.tmp 18) rfl w.heap.size A2 c2 (kept9 T) [q] _ m 1 1 rfl rfl HM.out rfl ((W2.out.alloc _).alloc _) (lit_part2 _ _ q) (by have := B2.out.size; simp; omega) (by rw [HM.out]; simp only [List.length_singleton]; omega) ?_; intro A3 c3 w3 s1 s2; have S1 := Lib.hid s1; have S2 := Lib.hid s2; clear s1 s2))
          go_roundw
          case rel => exact ⟨T ++ [p], R', m + 1, A3, c3, rfl, by rw [← HK.out, List.length_append, HM.out]; rfl, by rw [← HK.out]; exact S1.out, rd_on2 R2.out S2.out HG.out, ((B2.out.trans (below_x (below_new _ _) |>.mono B2.out.size)).trans (below_x (below_new _ _) |>.mono (Nat.le_trans B2.out.size (below_new _ _).size))).trans (below_x S2.out), HT2.out⟩
          case measure => exact rest_less HD.out (rd_on2 R2.out S2.out HG.out) HL2.out
        · have HK := Lib.hid (kept9_full T p (by rw [HM.out]; exact hm8))
          unfold Went Qt.val at HN
          generalize trunc p = q at HN
          go_wp2_with (go_at_call 36; refine HN.out.mono ?_; rintro e w2 ⟨rfl, r2, b2⟩; have R2 := Lib.hid r2; have B2 := Lib.hid (HX.out.trans (b2.mono HX.out.size)); have W2 := Lib.hid (HW.out.keptx b2 (Nat.le_refl _) HG.out); clear r2 b2)
          go_roundw
          case rel => exact ⟨T ++ [p], R', m, A2, c2, rfl, by rw [← HK.out, HM.out], by rw [← HK.out]; exact W2.out.alloc _, rd_on2' R2.out, B2.out.trans (below_x (below_new _ _) |>.mono B2.out.size), HT2.out⟩
          case measure => exact rest_less HD.out (rd_on2' R2.out) HL2.out
      · simp only [if_neg h0] at HN
        have HZ := Lib.hid h0
        have HB := Lib.hid (HLB.out h0)
        clear h0 HLB HLF HO
        go_wp2_with (go_at_call 36; refine HN.out.mono ?_; rintro e w2 ⟨he, hb⟩; unfold broke at he; subst he; have B2 := Lib.hid hb; clear hb)
        exact ⟨rfl, rowed_broke (by rw [← HU.out, HB.out]) HZ.out ((HX.out.below (by have := HG.out; have := HL.out; omega) HL.out).trans B2.out)⟩

end Go.Proofs.Ytaedhedbmbmdoaa
